package gc

import (
	"slices"
	"testing"

	"furrow/api"
)

// TestWaysSheets: the entries page by page, and no page's list grows into the next one's, or into the list's spare room.
func TestWaysSheets(t *testing.T) {
	for n := range 40 {
		entries := make([]api.Entry, n, n+10)
		for i := range entries {
			entries[i].Seq = uint64(i + 1)
		}
		was := slices.Clone(entries[:cap(entries)])
		list := sheets(entries)
		if got := slices.Concat(list...); !slices.Equal(got, entries) || len(list) != (n+6)/7 {
			t.Errorf("%d entries: %d sheets", n, len(list))
		}
		for i, sheet := range list {
			if i < len(list)-1 && len(sheet) != 7 || len(sheet) < 1 || len(sheet) > 7 {
				t.Errorf("%d entries: sheet %d has %d", n, i, len(sheet))
			}
			_ = append(sheet, api.Entry{Seq: 99})
		}
		if !slices.Equal(entries[:cap(entries)], was) {
			t.Errorf("%d entries: a sheet grew into what stands behind it", n)
		}
	}
}

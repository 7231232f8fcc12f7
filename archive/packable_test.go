package archive

import (
	"strconv"
	"strings"
	"testing"

	"furrow/api"
)

// P21.5: more than MaxMembers items beside the root are refused, long paths ahead of that. (No device has room for so many names: so the items are handed in.)
func TestP21_5Many(t *testing.T) {
	items := []api.Item{{Path: "/"}}
	for i := range 8193 {
		items = append(items, api.Item{Path: "/" + strconv.Itoa(10000+i)})
	}
	for n, want := range map[int]api.Errno{1: api.OK, 2: api.OK, 8192: api.OK, 8193: api.OK, 8194: api.ErrMember} {
		if e := packable(items[:n]); e != want {
			t.Errorf("%d items: %v; want %v", n, e, want)
		}
	}
	for _, at := range []int{1, 4000, 8193} {
		was := items[at]
		items[at].Path = "/" + strings.Repeat("n", 199)
		if e := packable(items); e != api.ErrMember {
			t.Errorf("a path of 200 bytes: %v", e)
		}
		items[at].Path += "n"
		if e := packable(items); e != api.ErrPathLong {
			t.Errorf("a path of 201 bytes: %v", e)
		}
		items[at] = was
	}
}

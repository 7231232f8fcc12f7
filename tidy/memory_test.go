package tidy_test

import (
	"math/rand"
	"reflect"
	"sync"
	"testing"

	"furrow/api"
	"furrow/files"
	"furrow/tidy"
)

// TestR1NoPanic: whatever number; a call that answers false has done nothing.
func TestR1NoPanic(t *testing.T) {
	r := chance()
	for _, s := range []api.Super{small, middling, tight} {
		d, v := fresh(t, s, 3)
		for range 40 {
			lives(r, v, true)
		}
		still(t, "wild numbers", d, v, func() {
			for _, ino := range append([]int{1, s.Inodes, s.Inodes + 1}, wild...) {
				if did, e := tidy.File(v, ino); did || e != api.ErrNoFile && e != api.ErrIsDir && e != api.OK {
					t.Errorf("File(%d) = %v, %v", ino, did, e)
				}
			}
		})
		if e := v.Unmount(); e != api.OK {
			t.Fatal("Unmount", e)
		}
		view := string(d.View())
		closed(t, "unmounted", v)
		if string(d.View()) != view {
			t.Error("a call of a closed volume changed the device")
		}
	}
}

// TestR4Apart: two volumes have nothing to do with one another, and the same calls do the same to both.
func TestR4Apart(t *testing.T) {
	d, v := woven(t)
	m, w := woven(t)
	still(t, "another volume", m, w, func() {
		if n, e := tidy.All(v); n == 0 || e != api.OK {
			t.Fatalf("All = %d, %v", n, e)
		}
	})
	if n, e := tidy.All(w); n == 0 || e != api.OK {
		t.Fatalf("All = %d, %v", n, e)
	}
	if string(d.View()) != string(m.View()) || d.Steps() != m.Steps() || !reflect.DeepEqual(v.State(), w.State()) {
		t.Error("the same calls did not do the same")
	}
}

// TestR4Goroutines: several, each with a file of its own.
func TestR4Goroutines(t *testing.T) {
	d, v := fresh(t, api.Super{Pages: 300, Inodes: 16, Cores: 4}, 8)
	var group sync.WaitGroup
	failed := make([]string, 8)
	for k := range failed {
		group.Add(1)
		go func() {
			defer group.Done()
			r := rand.New(rand.NewSource(int64(k)))
			text := ""
			for range 20 {
				data := noise(r, 512)
				if e := files.Write(v, k+2, len(text), data); e != api.OK {
					failed[k] = "Write: " + e.Error()
				}
				text += data
				if _, e := tidy.File(v, k+2); e != api.OK {
					failed[k] = "File: " + e.Error()
				}
				tidy.Spread(v)
				if s, e := files.Whole(v, k+2); s != text || e != api.OK {
					failed[k] = "its bytes are others"
				}
			}
		}()
	}
	group.Wait()
	for k, what := range failed {
		if what != "" {
			t.Errorf("goroutine %d: %s", k, what)
		}
	}
	meant(t, "goroutines", d, v)
}

// TestP24_7ClosedMeanwhile: somebody unmounts the volume while its files are gone through.
func TestP24_7ClosedMeanwhile(t *testing.T) {
	for k := range 40 {
		d, v := woven(t)
		was := seenOf(t, v)
		var group sync.WaitGroup
		group.Add(1)
		go func() {
			defer group.Done()
			for range k {
				v.Why()
			}
			if e := v.Unmount(); e != api.OK {
				t.Error("Unmount", e)
			}
		}()
		for e := api.OK; e == api.OK; {
			if k%2 == 0 {
				_, e = tidy.File(v, 2+k%3)
			} else {
				_, e = tidy.All(v)
			}
			if e != api.OK && e != api.ErrClosed {
				t.Errorf("beside Unmount: %v", e)
			}
		}
		group.Wait()
		closed(t, "unmounted meanwhile", v)
		same(t, "unmounted meanwhile", mounts(t, d), was)
	}
}

package mount_test

import (
	"bytes"
	"reflect"
	"runtime"
	"slices"
	"sync"
	"testing"
	"time"

	"furrow/api"
	"furrow/mount"
)

// roomy: a list with room behind it, and a look at whether the whole is as it was.
func roomy[T any](list []T, behind ...T) ([]T, func() bool) {
	whole := append(slices.Clone(list), behind...)
	was := slices.Clone(whole)
	return whole[:len(list)], func() bool { return reflect.DeepEqual(whole, was) }
}

// spoil writes over all that a state has, its spare room too.
func spoil(st api.State) {
	for _, n := range st.Nodes {
		fill(n.Map[:cap(n.Map)], run(-1, -1, -1))
		fill(n.Names[:cap(n.Names)], api.Dent{Name: "no", Ino: -1})
		fill(n.Log[:cap(n.Log)], -1)
	}
	fill(st.Nodes[:cap(st.Nodes)], api.Node{Ino: -1})
	fill(st.Free[:cap(st.Free)], api.Span{From: -1})
}

func fill[T any](list []T, v T) {
	for i := range list {
		list[i] = v
	}
}

// TestP12_8HandedIn: neither the image nor the picks are changed, their spare room included.
func TestP12_8HandedIn(t *testing.T) {
	r := chance()
	for round := range 60 {
		d, _ := drawn(t, r, small, 8)
		d.pending(r, 2048, 2112)
		if round%2 == 0 {
			d = spoilt(r, d)
		}
		b, image := roomy(d.b, bytes.Repeat([]byte{1}, 600)...)
		list, asked := roomy(picks(r, 20, 4), 1, 2, 3)
		mount.Mount(b, 4, list)
		if m, err := mount.New(b, 4); err == nil {
			finished(m)
		}
		if !image() || !asked() {
			t.Fatal("the image or the picks were changed")
		}
	}
}

// TestP12_8Machines: machines over one image and over several have nothing to do with one another.
func TestP12_8Machines(t *testing.T) {
	r := chance()
	for range 30 {
		d, _ := drawn(t, r, middling, 14)
		disks := []*disk{d, d, spoilt(r, d).copied(), broken(r, d), chain(t)}
		var ms []*mount.Machine
		var likes []*model
		for i, d := range disks {
			if m, err := mount.New(d.b, 1+i); err == nil {
				ms, likes = append(ms, m), append(likes, modelOf(d, 1+i))
			}
		}
		for range 120 {
			i, w := r.Intn(len(ms)), r.Intn(9)
			if ms[i].Step(w) != likes[i].step(w) {
				t.Fatal("a machine isn't as the model says")
			}
			for k := range ms {
				if !likes[k].asModel(ms[k]) {
					t.Fatal("another machine's step is seen")
				}
			}
		}
	}
}

// TestR3Answers: what is answered is new memory, and no two lists of it share any.
func TestR3Answers(t *testing.T) {
	r := chance()
	for range 30 {
		d, want := drawn(t, r, middling, 16)
		m := machine(t, d.b, 3)
		first, _ := finished(m)
		second, _ := m.Result()
		third, _ := mount.Mount(d.b, 2, nil)
		spoil(first)
		for _, st := range []api.State{second, third} {
			for i := range st.Nodes {
				a := &st.Nodes[i]
				fill(a.Map[len(a.Map):cap(a.Map)], run(-1, -1, -1))
				fill(a.Names[len(a.Names):cap(a.Names)], api.Dent{Name: "no"})
				fill(a.Log[len(a.Log):cap(a.Log)], -1)
			}
		}
		r.Read(d.b)
		if !sameState(second, want) || !sameState(third, want) {
			t.Fatal("answers share memory")
		}
		spoil(second)
		if last, err := m.Result(); err != nil || !sameState(last, want) {
			t.Fatal("the machine shares memory with an answer")
		}
	}
}

// TestR4Together: mounts that are under way at the same time.
func TestR4Together(t *testing.T) {
	d, want := drawn(t, chance(), middling, 16)
	var all sync.WaitGroup
	for i := range 16 {
		all.Add(1)
		go func() {
			defer all.Done()
			for k := range 20 {
				if st, err := mount.Mount(d.b, 1+(i+k)%64, []int{k, i, i, k}); err != nil || !sameState(st, want) {
					t.Errorf("%+v, %v", st, err)
				}
			}
		}()
	}
	all.Wait()
}

// TestR4Ended: the goroutines of a Mount have ended when it answers, whatever it answers (they may be on the last way out).
func TestR4Ended(t *testing.T) {
	good, bad := chain(t), chain(t)
	bad.b[6*512+70] ^= 1
	before := runtime.NumGoroutine()
	for range 50 {
		mount.Mount(good.b, 64, []int{3, 3, 3})
		mount.Mount(bad.b, 64, []int{3, 3, 3})
		mount.Mount(nil, 64, []int{3, 3, 3})
		mount.Mount(good.b, 65, nil)
	}
	for range 100 {
		if runtime.NumGoroutine() <= before {
			return
		}
		time.Sleep(10 * time.Millisecond)
	}
	t.Errorf("%d goroutines, %d before", runtime.NumGoroutine(), before)
}

package ship_test

import (
	"bytes"
	"reflect"
	"runtime"
	"slices"
	"sync"
	"testing"
	"time"

	"furrow/api"
	"furrow/archive"
	"furrow/ship"
)

// roomy: bytes with something in the room behind them.
func roomy(b []byte) []byte { return append(slices.Clip(b), "some room behind"...)[:len(b)] }

// copied: a list with what stands in its room, in memory of its own.
func copied(list []api.Step) []api.Step {
	l := slices.Clone(list[:cap(list)])
	for k := range l {
		l[k].List = slices.Clone(l[k].List[:cap(l[k].List)])
	}
	return l
}

// P23.8, R3: what is handed in isn't changed, its spare room neither.
func TestP23_8HandedIn(t *testing.T) {
	r := chance()
	for range 300 {
		from, to := drawnPair(r, 8, 1500)
		a, b := roomy(made(t, from...)), roomy(made(t, to...))
		if r.Intn(4) == 0 {
			b = roomy(b[:r.Intn(len(b))])
		}
		wasA, wasB := bytes.Clone(a[:cap(a)]), bytes.Clone(b[:cap(b)])
		_, _ = ship.Plan(a, b)
		_, _ = ship.Plan(b, a)
		_, _ = ship.Plan(a, a)
		if !bytes.Equal(a[:cap(a)], wasA) || !bytes.Equal(b[:cap(b)], wasB) {
			t.Fatal("P23.8: Plan changed its bytes")
		}
		list := append(anySteps(r, 20), anyStep(r), anyStep(r))
		for k := range list {
			list[k].List = append(make([]int, 0, 4), 1, 2)
		}
		was := copied(list)
		part := list[:len(list)-2]
		_, f := fresh(t, middling)
		_, _ = ship.Apply(f, part)
		ship.Room(part)
		if !reflect.DeepEqual(copied(list), was) {
			t.Fatal("P23.8: Apply or Room changed its steps")
		}
	}
}

// P23.8, R3: what is handed in isn't kept, and what is answered shares no memory with it or with another answer.
func TestP23_8Answers(t *testing.T) {
	r := chance()
	for range 300 {
		from, to := drawnPair(r, 8, 1500)
		a, b := made(t, from...), made(t, to...)
		one, two := planned(t, a, b), planned(t, a, b)
		want := modelPlan(from, to)
		clear(a)
		clear(b)
		if !sameSteps(one, want) || !sameSteps(two, want) {
			t.Fatal("P23.8: Plan keeps its bytes")
		}
		clear(one[:cap(one)])
		if !sameSteps(two, want) {
			t.Fatal("P23.8: two answers of Plan share memory")
		}
	}
}

// P23.8: a file system keeps nothing of the steps that were played on it.
func TestP23_8Played(t *testing.T) {
	r := chance()
	for range 50 {
		_, to := drawnPair(r, 8, 1500)
		_, f := fresh(t, middling)
		list := planned(t, made(t), made(t, to...))
		applied(t, "P23.8", f, list)
		clear(list[:cap(list)])
		is(t, "P23.8", f, made(t, to...))
	}
}

// P23.8: Plan and Room ask nothing of anybody: the same answers, whatever came between.
func TestR4TheSame(t *testing.T) {
	r := chance()
	type way struct {
		from, to []byte
		list     []api.Step
	}
	var ways []way
	for range 60 {
		from, to := drawnPair(r, 12, 2000)
		a, b := made(t, from...), made(t, to...)
		ways = append(ways, way{a, b, planned(t, a, b)})
	}
	for range 20 {
		w := pick(r, ways...)
		_, f := holding(t, large, w.from)
		applied(t, "between", f, w.list)
		for k, w := range ways {
			if !sameSteps(planned(t, w.from, w.to), w.list) || ship.Room(w.list) != modelRoom(w.list) {
				t.Fatalf("R4: way %d is another one another time", k)
			}
		}
	}
}

// R4: many goroutines at once, over the same archives and steps and file systems of their own; none is left behind.
func TestR4AtOnce(t *testing.T) {
	before := runtime.NumGoroutine()
	r := chance()
	var wait sync.WaitGroup
	for range 6 {
		from, to := drawnPair(r, 12, 2000)
		a, b := made(t, from...), made(t, to...)
		list := planned(t, a, b)
		for range 4 {
			_, f := holding(t, large, a)
			wait.Go(func() {
				got, e := ship.Plan(a, b)
				n, err := ship.Apply(f, list)
				is, no := archive.Pack(f)
				if e != api.OK || !sameSteps(got, list) || n != len(list) || err != nil || no != nil || !bytes.Equal(is, b) || ship.Room(list) != modelRoom(list) {
					t.Errorf("R4: beside others: Plan %v, Apply %d, %v, Pack %v", e, n, err, no)
				}
			})
		}
	}
	wait.Wait()
	for range 100 {
		if runtime.NumGoroutine() <= before {
			return
		}
		time.Sleep(10 * time.Millisecond)
	}
	t.Errorf("R4: %d goroutines, there were %d", runtime.NumGoroutine(), before)
}

package run_test

import (
	"bytes"
	"math"
	"reflect"
	"slices"
	"strings"
	"sync"
	"testing"
	"time"

	"furrow/api"
	"furrow/run"
)

// R3: what is handed in is left alone, its spare room too.
func TestR3ArgumentsLeft(t *testing.T) {
	numbers := func() []int { return []int{1, -2, 3, 77, 78} }
	picks := numbers()
	list := []api.Step{{Kind: api.StepMkfs, N: 24, M: 8, K: 1}, {Kind: api.StepMount, N: 3, List: picks[:3]}, {Kind: api.StepScan, N: 5, List: picks[:3]}, {Kind: api.StepCrash, List: picks[:3]}, {Kind: api.StepCreate, A: "/spare"}}
	was := slices.Clone(list)
	run.Play(list[:4])
	if !reflect.DeepEqual(list, was) || !slices.Equal(picks, numbers()) {
		t.Errorf("R3: the steps became %+v", list)
	}
	node := api.Node{Ino: 1, Kind: api.KindDir, Log: picks[:2], Names: []api.Dent{{Name: "a", Ino: 2}, {Name: "spare", Ino: 9}}[:1]}
	st := api.State{Nodes: []api.Node{node, {Ino: 99}}[:1], Free: []api.Span{{From: 1, Count: 2}, {From: 99, Count: 99}}[:1]}
	run.State(st)
	if !slices.Equal(picks, numbers()) || st.Nodes[:2][1].Ino != 99 || st.Free[:2][1].Count != 99 || node.Names[:2][1].Name != "spare" {
		t.Errorf("R3: the state became %+v", st)
	}
}

// R3: what is answered is new memory, and nothing is kept from call to call.
func TestR3AnswersAreNew(t *testing.T) {
	list := steps(t, "mkfs 24 8 1\nmount 1\ncreate \"/a\"\nwalk")
	texts, left := run.Play(list)
	want, bytesWant := slices.Clone(texts), bytes.Clone(left)
	for i := range texts[:cap(texts)] {
		texts[:cap(texts)][i] = "spoilt"
	}
	clear(left[:cap(left)])
	if again, rest := run.Play(list); !slices.Equal(again, want) || !bytes.Equal(rest, bytesWant) {
		t.Errorf("R3: the same steps tell %q, and then %q", want, again)
	}
	if got, rest := run.Play([]api.Step{{Kind: api.StepInfo}, {Kind: api.StepState}}); !slices.Equal(got, []string{"E201", "E200"}) || rest != nil {
		t.Errorf("a run has the device of another one: %q, %d bytes", got, len(rest))
	}
}

// P20.8, R4: two runs of one text tell the same, also at the same time.
func TestP20_8Again(t *testing.T) {
	r := chance()
	for range 12 {
		list := drawn(r, 150, false)
		texts, left := run.Play(list)
		var all sync.WaitGroup
		for range 8 {
			all.Go(func() {
				if again, rest := run.Play(list); !slices.Equal(again, texts) || !bytes.Equal(rest, left) {
					t.Errorf("P20.8: two runs tell %q and %q", texts, again)
				}
			})
		}
		all.Wait()
	}
}

// R1: any numbers, texts and lists in any step; none panics.
func TestR1Anything(t *testing.T) {
	r := chance()
	texts := []string{"", "/", "/a", "a", "\x00", "/\xff", strings.Repeat("/x", 500), strings.Repeat("y", 5000)}
	numbers := []int{0, 1, -1, 8, 24, 64, 256, 512, 12288, 1 << 31, 1 << 62, math.MaxInt, math.MinInt, math.MinInt + 1}
	for range 400 {
		list := steps(t, "mkfs 24 8 1\nmount 1\ncreate \"/a\"")
		for range 40 {
			s := api.Step{Kind: pick(r, r.Intn(24)-1, r.Intn(22), pick(r, numbers...)), A: pick(r, texts...), B: pick(r, texts...), N: pick(r, numbers...), M: pick(r, numbers...), K: pick(r, numbers...)}
			for range r.Intn(4) {
				s.List = append(s.List, pick(r, numbers...))
			}
			list = append(list, s)
		}
		holds(t, list)
	}
}

// R1: the longest runs end, and not late.
func TestR1Ends(t *testing.T) {
	began := time.Now()
	run.Run(strings.Repeat("\n", 1<<20) + strings.Repeat("frob\n", 1<<18) + strings.Repeat("info\n", 1<<16))
	run.Play(make([]api.Step, 1<<19))
	many := slices.Repeat([]int{5, -1, math.MinInt}, 1<<17)
	got, _ := run.Play([]api.Step{{Kind: api.StepMkfs, N: 1024, M: 256, K: 8}, {Kind: api.StepScan, N: 64, List: many}, {Kind: api.StepMount, N: 64, List: many}, {Kind: api.StepCrash, List: many}, {Kind: api.StepState}})
	if got[2] != "ok E130" || got[1] != got[4] {
		t.Errorf("long lists tell %q", got)
	}
	list := []api.Step{{Kind: api.StepMkfs, N: 1024, M: 256, K: 8}, {Kind: api.StepMount, N: 8}, {Kind: api.StepCreate, A: "/a"}}
	for i := range 1300 {
		list = append(list, api.Step{Kind: api.StepWrite, A: "/a", N: 512 * (i % 500), B: "some bytes"})
	}
	list = append(list, slices.Repeat([]api.Step{{Kind: api.StepState}, {Kind: api.StepScan, N: 64}, {Kind: api.StepWalk}}, 240)...)
	if got, _ := run.Play(list); len(got) != len(list) || slices.Contains(got[:api.MaxSteps], "E152") || got[api.MaxSteps] != "E203" {
		t.Errorf("a long run's last texts are %.300q", got[len(got)-3:])
	}
	if took := time.Since(began); took > time.Minute {
		t.Errorf("long runs took %v", took)
	}
}

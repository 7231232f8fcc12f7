package run_test

import (
	"math"
	"math/rand"
	"strconv"
	"strings"
	"testing"

	"furrow/api"
	"furrow/run"
)

func itoa(n int) string { return strconv.Itoa(n) }

// cut: the script of lines that have what they tell behind them.
func cut(lines []string) string {
	text := ""
	for _, l := range lines {
		step, _, _ := strings.Cut(l, " -> ")
		text += step + "\n"
	}
	return text
}

func TestP20_5State(t *testing.T) {
	for _, c := range []struct {
		st   api.State
		want string
	}{
		{api.State{}, "  shape 0 0 0\n  free"},
		{api.State{Shape: api.Shape{Pages: -1, Inodes: math.MinInt, Cores: math.MaxInt, Data: 9}, Free: []api.Span{{From: -3, Count: -4}}}, "  shape -1 -9223372036854775808 9223372036854775807\n  free -3+-4"},
		{api.State{Shape: api.Shape{Pages: 24, Inodes: 8, Cores: 2}, Free: []api.Span{{From: 5, Count: 1}, {From: 7, Count: 0}}, Nodes: []api.Node{
			{Ino: 1, Kind: api.KindDir, Links: 2, Size: 3, Head: 4, Tail: 5, Entries: 6, Log: []int{7, 8, -9}, Names: []api.Dent{{Name: "a b", Ino: 2}, {Name: "", Ino: -1}}, Map: []api.Run{{Off: 1, Page: 1, Count: 1}}},
			{Ino: 2, Kind: api.KindFile, Names: []api.Dent{{Name: "a", Ino: 2}}, Map: []api.Run{{Off: 1, Page: 2, Count: 3}, {Off: -1, Page: -2, Count: -3}}},
			{Ino: 3, Kind: api.KindFree, Log: []int{1}, Names: []api.Dent{{Name: "a", Ino: 2}}, Map: []api.Run{{Off: 1, Page: 2, Count: 3}}},
			{Ino: -4, Kind: 3, Links: -1, Size: -2, Head: -3, Tail: -4, Entries: -5, Names: []api.Dent{{Name: "a", Ino: 2}}, Map: []api.Run{{Off: 1, Page: 2, Count: 3}}},
			{Kind: -1},
		}}, "  shape 24 8 2\n" +
			"  inode 1 dir 2 size 3 head 4 tail 5 entries 6 log 7 8 -9 names \"a b\" 2 \"\" -1\n" +
			"  inode 2 file 0 size 0 head 0 tail 0 entries 0 map 1:2+3 -1:-2+-3\n" +
			"  inode 3 free 0 size 0 head 0 tail 0 entries 0 log 1\n" +
			"  inode -4 free -1 size -2 head -3 tail -4 entries -5\n" +
			"  inode 0 free 0 size 0 head 0 tail 0 entries 0\n" +
			"  free 5+1 7+0"},
	} {
		if got := run.State(c.st); got != c.want {
			t.Errorf("P20.5: State(%+v)\n got %q\nwant %q", c.st, got, c.want)
		}
	}
}

// drawnState: numbers, names and lists without a rule.
func drawnState(r *rand.Rand) api.State {
	n := func() int { return pick(r, r.Intn(9), r.Intn(2000), -r.Intn(9), r.Int(), -r.Int(), math.MinInt) }
	st := api.State{Shape: api.Shape{Pages: n(), Inodes: n(), Cores: n(), Data: n()}}
	for range r.Intn(4) {
		d := api.Node{Ino: n(), Kind: pick(r, 0, 1, 1, 2, 2, 3, n()), Links: n(), Size: n(), Head: n(), Tail: n(), Entries: n()}
		for range r.Intn(3) {
			d.Log = append(d.Log, n())
		}
		for range r.Intn(3) {
			d.Map = append(d.Map, api.Run{Off: n(), Page: n(), Count: n()})
		}
		for range r.Intn(3) {
			d.Names = append(d.Names, api.Dent{Name: pick(r, "", "a", " ", "\n", "\"", "\\", "\x00", "\xff", "日"), Ino: n()})
		}
		st.Nodes = append(st.Nodes, d)
	}
	for range r.Intn(3) {
		st.Free = append(st.Free, api.Span{From: n(), Count: n()})
	}
	return st
}

func TestP20_5Drawn(t *testing.T) {
	r := chance()
	for range 4000 {
		st := drawnState(r)
		if got, want := run.State(st), linesOf(st); got != want {
			t.Fatalf("P20.5: State(%+v)\n got %q\nwant %q", st, got, want)
		}
	}
}

func TestP20_6Refused(t *testing.T) {
	for text, want := range map[string]string{
		"":                         "",
		"\n\n  \n":                 "",
		" # a remark\n#\n":         "",
		"frob":                     "E190\n",
		"walk 1":                   "E192\n",
		"arm x":                    "E193\n",
		"create \"":                "E194\n",
		strings.Repeat("x", 20001): "E191\n",
		"\x00":                     "E190\n",
		"walk\r\n":                 "E190\n",
		"info":                     "E201\n",
		"info\n":                   "E201\n",
		"mkfs 24 8 1\nfrob\n\n# no step\nmkfs 24 8\nmkfs 24 8 x\nmkfs 24 8 \"\n  mount   1 \nfrob \"\\q\"\nunmount 1\ninfo": "ok\nE190\nE192\nE193\nE194\nok E130\nE194\nE192\nok 24 19 8 7\n",
	} {
		if got := run.Run(text); got != want {
			t.Errorf("P20.6: Run(%.100q)\n got %q\nwant %q", text, got, want)
		}
	}
}

// The steps are counted with those that are refused, which tell their own error wherever they stand; lines that are passed over aren't counted.
func TestP20_6MaxSteps(t *testing.T) {
	for _, many := range []int{1998, 1999, 2000, 2001} {
		for _, line := range []string{"frob\n", "info\n", "info 1\n# nothing\n\n"} {
			text := strings.Repeat(line, many) + "mkfs 24 8 1\nfrob\nstate\nmkfs 24 8\n\nmkfs 23 8 1\n"
			got := strings.Split(strings.TrimSuffix(run.Run(text), "\n"), "\n")
			want := strings.Split(strings.Repeat(map[string]string{"frob\n": "E190 ", "info\n": "E201 "}[line], many), " ")
			if line[4] == ' ' {
				want = strings.Split(strings.Repeat("E192 ", many), " ")
			}
			want = want[:many]
			if line == "info\n" && many > 2000 {
				want[2000] = "E203"
			}
			switch {
			case many == 1998:
				want = append(want, "ok", "E190", "E203", "E192", "E203")
			case many == 1999:
				want = append(want, "ok", "E190", "E203", "E192", "E203")
			default:
				want = append(want, "E203", "E190", "E203", "E192", "E203")
			}
			if strings.Join(got, " ") != strings.Join(want, " ") {
				t.Errorf("P20.6: %d times %q: the end is %q; want %q", many, line, got[1995:], want[1995:])
			}
		}
	}
	// A refused line takes a place, so that the last step of 2000 is one earlier.
	text := "frob\n" + strings.Repeat("info\n", 1998) + "mkfs 24 8 1\nmkfs 24 8 1\n"
	if got := run.Run(text); !strings.HasSuffix(got, "E201\nok\nE203\n") {
		t.Errorf("P20.6: the end is %q", got[len(got)-20:])
	}
}

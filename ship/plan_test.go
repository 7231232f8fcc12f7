package ship_test

import (
	"bytes"
	"fmt"
	"reflect"
	"slices"
	"strings"
	"testing"

	"furrow/api"
	"furrow/archive"
	"furrow/ship"
)

// planRefuses: whether Plan answers nothing but this.
func planRefuses(t *testing.T, what string, from, to []byte, why api.Errno) {
	t.Helper()
	if l, e := ship.Plan(from, to); l != nil || e != why {
		t.Fatalf("P23.1: %s: Plan = %v, %v; want %v", what, l, e, why)
	}
}

// P23.1: bytes that are no archive; the first ones are looked at first.
func TestP23_1(t *testing.T) {
	good := made(t, tree()...)
	turned := bytes.Clone(good)
	turned[70] ^= 4
	for what, bad := range map[string][]byte{"nil": nil, "none": {}, "zeros": make([]byte, 64), "one more": append(bytes.Clone(good), 0), "one less": good[:len(good)-1], "a bit turned": turned, "a line": good[:64], "text": []byte("FURROWAR")} {
		planRefuses(t, what, bad, good, api.ErrFrom)
		planRefuses(t, what, good, bad, api.ErrTo)
		planRefuses(t, what, bad, bad, api.ErrFrom)
		planRefuses(t, what, bad, made(t), api.ErrFrom)
		planRefuses(t, what, made(t), bad, api.ErrTo)
	}
}

// P23.1, P23.8: any bytes: refused where Open refuses them, and planned where it reads them.
func TestP23_1AnyBytes(t *testing.T) {
	r := chance()
	spoil := func(b []byte) []byte {
		b = bytes.Clone(b)
		switch r.Intn(5) {
		case 0:
			b[r.Intn(len(b))] ^= byte(1 + r.Intn(255))
		case 1:
			b = b[:r.Intn(len(b))]
		case 2:
			b = append(b, b...)
		case 3:
			r.Read(b)
		}
		return b
	}
	good := 0
	for range 2000 {
		from, to := drawnPair(r, 6, 1500)
		a, b := spoil(made(t, from...)), spoil(made(t, to...))
		_, no := archive.Open(a)
		_, nor := archive.Open(b)
		switch {
		case no != api.OK:
			planRefuses(t, "any bytes", a, b, api.ErrFrom)
		case nor != api.OK:
			planRefuses(t, "any bytes", a, b, api.ErrTo)
		default:
			good++
			planned(t, a, b)
		}
	}
	if good < 50 {
		t.Errorf("only %d pairs were archives", good)
	}
}

// P23.2: drawn pairs of trees, against the chapter's words; each kind of step comes about.
func TestP23_2Drawn(t *testing.T) {
	r := chance()
	seen := map[int]int{}
	for range 6000 {
		from, to := drawnPair(r, 12, 3000)
		want := modelPlan(from, to)
		plans(t, from, to, want...)
		for _, s := range want {
			seen[s.Kind]++
		}
	}
	for _, kind := range []int{4, 5, 6, 7, 9, 11, 12} {
		if seen[kind] < 300 {
			t.Errorf("steps of kind %d: %d", kind, seen[kind])
		}
	}
}

// P23.2: each size of a few against each other, with bytes, with zeros, and with bytes at the ends.
func TestP23_2Sizes(t *testing.T) {
	var texts []string
	for _, n := range []int{0, 1, 2, 511, 512, 513, 1023, 1024, 1025, 1536, 2000} {
		texts = append(texts, zeros(n), strings.Repeat("x", n))
		if n > 1 {
			texts = append(texts, "x"+zeros(n-1), zeros(n-1)+"x")
		}
	}
	texts = append(texts, strings.Repeat("x", 512)+zeros(512)+"y", zeros(512)+strings.Repeat("y", 512)+zeros(9), strings.Repeat("x", 600)+zeros(900), zeros(api.MaxSize), zeros(api.MaxSize-1)+"x", zeros(api.MaxSize-1), "x"+zeros(api.MaxSize-513)+"y")
	for _, a := range texts {
		plans(t, nil, of(file("n", a)), append([]api.Step{create("/n")}, modelChanges(nil, []byte(a), "/n")...)...)
		for _, b := range texts {
			plans(t, of(file("n", a)), of(file("n", b)), modelChanges([]byte(a), []byte(b), "/n")...)
		}
	}
}

// P23.2: pages that differ in the bytes that stay, or only in those that go; a page that both have but one of them shorter.
func TestP23_2Pages(t *testing.T) {
	x := strings.Repeat("x", 512)
	for _, c := range []struct {
		from, to string
		want     []api.Step
	}{
		{x + x, x + "x", []api.Step{truncate("/f", 513)}},
		{x + "xy", x + "x", []api.Step{truncate("/f", 513)}},
		{x + "xy", x + "y", []api.Step{truncate("/f", 513), write("/f", 512, "y")}},
		{x + zeros(9) + "y", x + zeros(5), []api.Step{truncate("/f", 517)}},
		{x + "y", x + "y" + zeros(20), []api.Step{truncate("/f", 533)}},
		{x + "y", x + "yz", []api.Step{write("/f", 512, "yz")}},
		{x + "y", x + zeros(1), []api.Step{write("/f", 512, zeros(1))}},
		{x + x, zeros(512) + x, []api.Step{write("/f", 0, zeros(512))}},
		{x + x, x + zeros(512), []api.Step{write("/f", 512, zeros(512))}},
		{x + x + x, x + "z" + x[1:] + x, []api.Step{write("/f", 512, "z"+x[1:])}},
		{"x", zeros(2), []api.Step{write("/f", 0, zeros(2))}},
		{"x", "x" + zeros(1), []api.Step{truncate("/f", 2)}},
		{"x", zeros(1024), []api.Step{write("/f", 0, zeros(512)), truncate("/f", 1024)}},
		{x, x + zeros(512) + "z" + zeros(600), []api.Step{write("/f", 1024, "z"+zeros(511)), truncate("/f", 1625)}},
		{x + x + "z", x + "y", []api.Step{truncate("/f", 513), write("/f", 512, "y")}},
		{x, "", []api.Step{truncate("/f", 0)}},
		{zeros(5), zeros(4), []api.Step{truncate("/f", 4)}},
	} {
		plans(t, of(file("f", c.from)), of(file("f", c.to)), c.want...)
	}
}

// P23.2: what is kept, goes and comes, by kinds: each kind at a path against each other.
func TestP23_2Kinds(t *testing.T) {
	first := of(file("a", "1"), file("b", "2"))
	at := map[string]struct {
		m     []api.Member
		goes  api.Step
		comes []api.Step
	}{
		"nothing":      {},
		"a directory":  {of(dir("p")), rmdir("/p"), []api.Step{mkdir("/p")}},
		"a file":       {of(file("p", "3")), unlink("/p"), []api.Step{create("/p"), write("/p", 0, "3")}},
		"a link":       {of(link("p", "a")), unlink("/p"), []api.Step{linked("/a", "/p")}},
		"another link": {of(link("p", "b")), unlink("/p"), []api.Step{linked("/b", "/p")}},
	}
	for was, from := range at {
		for is, to := range at {
			var want []api.Step
			if was != is && from.m != nil {
				want = append(want, from.goes)
			}
			if was != is && to.m != nil {
				want = append(want, to.comes...)
			}
			plans(t, slices.Concat(first, from.m), slices.Concat(first, to.m), want...)
		}
	}
}

// P23.2: the order of the going and coming is that of the lists, name by name: "a/z" is ahead of "a.b".
func TestP23_2Order(t *testing.T) {
	list := of(dir("a"), dir("a/d"), file("a/d/f", "1"), link("a/z", "a/d/f"), file("a.b", "2"), dir("b"), link("b/l", "a/d/f"), link("c", "a.b"))
	plans(t, nil, list, mkdir("/a"), mkdir("/a/d"), create("/a/d/f"), write("/a/d/f", 0, "1"), linked("/a/d/f", "/a/z"), create("/a.b"), write("/a.b", 0, "2"), mkdir("/b"), linked("/a/d/f", "/b/l"), linked("/a.b", "/c"))
	plans(t, list, nil, unlink("/c"), unlink("/b/l"), rmdir("/b"), unlink("/a.b"), unlink("/a/z"), unlink("/a/d/f"), rmdir("/a/d"), rmdir("/a"))
	plans(t, list, of(dir("a"), file("a/d", ""), dir("b"), file("b/l", "")), unlink("/c"), unlink("/b/l"), unlink("/a.b"), unlink("/a/z"), unlink("/a/d/f"), rmdir("/a/d"), create("/a/d"), create("/b/l"))
	plans(t, of(file("a", "1"), link("b", "a"), link("c", "a")), of(file("b", "1"), link("c", "b")), unlink("/c"), unlink("/b"), unlink("/a"), create("/b"), write("/b", 0, "1"), linked("/b", "/c"))
	plans(t, of(file("b", "1"), link("c", "b")), of(file("a", "1"), link("b", "a"), link("c", "a")), unlink("/c"), unlink("/b"), create("/a"), write("/a", 0, "1"), linked("/a", "/b"), linked("/a", "/c"))
}

// P23.2: the longest paths, and names of odd bytes.
func TestP23_2Paths(t *testing.T) {
	long := strings.Repeat(strings.Repeat("n", 28)+"/", 6) + strings.Repeat("m", 25)
	parts := strings.Split(long, "/")
	var list []api.Member
	var want []api.Step
	for k := 1; k < len(parts); k++ {
		p := strings.Join(parts[:k], "/")
		list, want = append(list, dir(p)), append(want, mkdir("/"+p))
	}
	list, want = append(list, file(long, "x"), link("z", long), dir("\xff\n\"日")), append(want, create("/"+long), write("/"+long, 0, "x"), linked("/"+long, "/z"), mkdir("/\xff\n\"日"))
	if len(long) != 199 {
		t.Fatal(len(long))
	}
	plans(t, nil, list, want...)
}

// P23.3: from an archive to itself there is nothing to do.
func TestP23_3Itself(t *testing.T) {
	r := chance()
	for range 1000 {
		list := drawnWood(r, 12, 3000).members()
		plans(t, list, list)
	}
}

// P23.3: a step is told only for what differs.
func TestP23_3OnlyWhatDiffers(t *testing.T) {
	r := chance()
	common, writes := 0, 0
	for range 3000 {
		from, to := drawnPair(r, 12, 3000)
		steps := planned(t, made(t, from...), made(t, to...))
		same := map[string]bool{}
		for _, m := range to {
			if was, there := at(from, m.Path); there && reflect.DeepEqual(was, m) {
				same["/"+m.Path] = true
				common++
			}
		}
		for _, s := range steps {
			if same[s.A] && s.Kind != api.StepLink || s.Kind == api.StepLink && same[s.B] {
				t.Fatalf("P23.3: %+v, though nothing differs there: from%s\nto%s", s, shown(from), shown(to))
			}
			if path := strings.TrimPrefix(s.A, "/"); s.Kind == api.StepWrite && stays(from, to, path) {
				a, _ := at(from, path)
				b, _ := at(to, path)
				was, will := append(wholeBytes(a), make([]byte, 600000)...), wholeBytes(b)
				end := s.N + len(s.B)
				if s.N%512 != 0 || end != min(s.N+512, len(will)) || string(will[s.N:end]) != s.B || bytes.Equal(was[s.N:end], will[s.N:end]) {
					t.Fatalf("P23.3: %d, %d bytes are written to %q", s.N, len(s.B), s.A)
				}
				writes++
			}
		}
	}
	if common < 1000 || writes < 500 {
		t.Errorf("%d members in common, %d writes to kept files", common, writes)
	}
}

// P23.2: as many members as an archive may have, and files of the greatest size, in little time.
func TestP23_2Many(t *testing.T) {
	var from, to []api.Member
	var want []api.Step
	for k := range api.MaxMembers {
		name := fmt.Sprintf("%04d", k)
		from = append(from, api.Member{Kind: api.KindFile, Path: name, Size: api.MaxSize})
		m := api.Member{Kind: api.KindFile, Path: name, Size: api.MaxSize}
		if k%8 == 0 {
			m.Size--
			want = append(want, truncate("/"+name, m.Size))
		}
		to = append(to, m)
	}
	plans(t, from, to, want...)
	plans(t, to, to)
}

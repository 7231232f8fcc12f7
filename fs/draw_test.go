package fs_test

import (
	"math/rand"
	"reflect"
	"strings"
	"testing"

	"furrow/api"
)

// drawnName: one of few names, or a rare one.
func drawnName(r *rand.Rand) string {
	if r.Intn(20) == 0 {
		return oneOf(r, []string{strings.Repeat("n", 28), "\xff\xfe", "...", " ", ".a", "\x01", "\\", "日本"})
	}
	return string([]byte{byte('a' + r.Intn(6)), "\xff!.az0"[r.Intn(6)]}[:1+r.Intn(2)])
}

// drawnPath: a text that leads to something, or nearly; by a straight way or a round one.
func drawnPath(r *rand.Rand, p *plain) string {
	if r.Intn(50) == 0 {
		return oneOf(r, oddTexts).text
	}
	text, way := "", []*thing{p.root}
	for going := true; going && r.Intn(5) > 0; {
		last := way[len(way)-1]
		switch n := r.Intn(24); {
		case n == 0:
			text += "/."
		case n == 1:
			text, way = text+"/..", way[:max(1, len(way)-1)]
		case n == 2:
			text += "/"
		case n < 8 || len(last.names) == 0:
			text += "/" + drawnName(r)
			going = r.Intn(10) == 0
		default:
			name := oneOf(r, last.sorted())
			text += "/" + name
			if way = append(way, last.names[name]); last.names[name].isFile() {
				going = r.Intn(10) == 0
			}
		}
	}
	if text == "" || r.Intn(8) == 0 {
		text += "/"
	}
	return text
}

// fileAt: the path of some file, if there is one.
func fileAt(r *rand.Rand, p *plain) string {
	var list []string
	for _, i := range p.items() {
		if i.Stat.Kind == api.KindFile && len(i.Path) <= api.MaxPath {
			list = append(list, i.Path)
		}
	}
	if len(list) == 0 || r.Intn(8) == 0 {
		return drawnPath(r, p)
	}
	return oneOf(r, list)
}

// drawnPlace: a byte's number, often near a page's edge, near the start, or near the greatest one.
func drawnPlace(r *rand.Rand) int {
	switch r.Intn(12) {
	case 0:
		return oneOf(r, wild)
	case 1:
		return api.MaxSize - r.Intn(600)
	case 2, 3, 4:
		return max(0, 512*r.Intn(12)-2+r.Intn(5))
	}
	return r.Intn(3000)
}

// drawnData: bytes without a rule, now and then as many as may be, or more.
func drawnData(r *rand.Rand) string {
	many := r.Intn(40)
	switch r.Intn(10) {
	case 0:
		many = 4090 + r.Intn(8)
	case 1, 2:
		many = r.Intn(4096)
	}
	b := make([]byte, many)
	r.Read(b)
	return string(b)
}

func drawnOp(r *rand.Rand, p *plain) op {
	name := oneOf(r, []string{"create", "create", "mkdir", "unlink", "rmdir", "rename", "rename", "rename", "link", "link", "read", "write", "write", "write", "truncate", "truncate", "stat", "readdir", "walk", "info"})
	switch name {
	case "walk", "info":
		return op{name: name}
	case "rename", "link":
		return op{name: name, a: drawnPath(r, p), b: drawnPath(r, p)}
	case "read":
		return read(fileAt(r, p), drawnPlace(r), oneOf(r, []int{0, 1, 511, 512, 4096, 4097, -1, 1 << 40}))
	case "write":
		return write(fileAt(r, p), drawnPlace(r), drawnData(r))
	case "truncate":
		return truncate(fileAt(r, p), drawnPlace(r))
	}
	return op{name: name, a: drawnPath(r, p)}
}

// session: drawn operations on a fresh file system, which is unmounted and mounted anew now and then, or mounted without that. How often each answer came is counted.
func session(t *testing.T, r *rand.Rand, s api.Super, calls int, seen map[api.Errno]int) {
	t.Helper()
	d, _ := fresh(t, s)
	b := besideOf(t, d.View(), newPlain(s))
	for i := range calls {
		seen[b.does(t, drawnOp(r, b.p))]++
		if i%50 == 49 {
			isPlain(t, b.f, b.p)
		}
		if i%150 == 149 {
			if i%300 == 299 && (b.f.Unmount() != nil || b.v.Unmount() != api.OK) {
				t.Fatal("Unmount")
			}
			b.mounts(t)
			b.alike(t, "mount")
		}
	}
	isPlain(t, b.f, b.p)
	isPlain(t, mounts(t, load(t, b.d.View())), b.p)
	if st := replayed(t, b.d.View()); !reflect.DeepEqual(st, b.v.State()) {
		t.Errorf("%v: the device means another state", s)
	}
}

// TestT1PlainTree: sessions on all sorts of devices; what the whole answers is what a plain tree answers, or ErrNoSpace and ErrNoInodes within R10 (18.14), and what is refused changes nothing (18.15).
func TestT1PlainTree(t *testing.T) {
	r := chance()
	seen := map[api.Errno]int{}
	for _, c := range []struct {
		s               api.Super
		sessions, calls int
	}{{small, 12, 400}, {tight, 30, 80}, {middling, 4, 800}, {large, 2, 700}} {
		was := seen[api.OK]
		for range c.sessions {
			session(t, r, c.s, c.calls, seen)
		}
		if done := seen[api.OK] - was; done < 300 {
			t.Errorf("%v: only %d calls were done", c.s, done)
		}
	}
	for _, e := range []api.Errno{
		api.ErrPathLong, api.ErrPathForm, api.ErrNameLong, api.ErrNoEnt, api.ErrNotDir, api.ErrPathEnd, api.ErrNoSpace, api.ErrNoInodes,
		api.ErrIsDir, api.ErrOffset, api.ErrFBig, api.ErrData, api.ErrExist, api.ErrNotEmpty, api.ErrBelow,
	} {
		if seen[e] < 5 {
			t.Errorf("%d calls answered %v: %v", seen[e], e, seen)
		}
	}
}

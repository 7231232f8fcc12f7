package ship_test

import (
	"maps"
	"math"
	"math/rand"
	"slices"
	"strings"

	"furrow/api"
)

// wild: numbers that few fields are.
var wild = []int{-1, -512, 1, 511, 512, 513, 4096, api.MaxSize - 1, api.MaxSize, api.MaxSize + 1, 1 << 31, 1 << 32, 1 << 62, math.MaxInt, math.MaxInt - 1, math.MaxInt - 511, math.MaxInt - 4095, math.MinInt, math.MinInt + 1}

// wood: a tree: what stands at each path (0: a directory, else a file's number), and the files' bytes.
type wood struct {
	at    map[string]int
	bytes map[int]string
}

// paths: a wood's paths, each ahead of the next.
func (w *wood) paths() []string {
	return slices.SortedFunc(maps.Keys(w.at), func(a, b string) int {
		return slices.Compare(strings.Split(a, "/"), strings.Split(b, "/"))
	})
}

// members: a wood's good list.
func (w *wood) members() []api.Member {
	var list []api.Member
	first := map[int]string{}
	for _, p := range w.paths() {
		no := w.at[p]
		switch {
		case no == 0:
			list = append(list, dir(p))
		case first[no] == "":
			first[no] = p
			list = append(list, file(p, w.bytes[no]))
		default:
			list = append(list, link(p, first[no]))
		}
	}
	return list
}

// cut takes a path away, and what is below it.
func (w *wood) cut(path string) {
	maps.DeleteFunc(w.at, func(p string, _ int) bool { return p == path || strings.HasPrefix(p, path+"/") })
}

// someDir: what stands ahead of a name in one of the wood's directories.
func (w *wood) someDir(r *rand.Rand) string {
	dirs := []string{""}
	for _, p := range w.paths() {
		if w.at[p] == 0 && len(p) < 150 {
			dirs = append(dirs, p+"/")
		}
	}
	return pick(r, dirs...)
}

// names: how many paths a file has.
func (w *wood) names(no int) int {
	many := 0
	for _, other := range w.at {
		if other == no {
			many++
		}
	}
	return many
}

// grow puts something at a path that nothing stands at.
func (w *wood) grow(r *rand.Rand, path string, most int) {
	if _, there := w.at[path]; there {
		return
	}
	no := 1 + r.Intn(6)
	switch {
	case r.Intn(3) == 0:
		w.at[path] = 0
	case w.names(no) == 0:
		w.at[path], w.bytes[no] = no, drawnBytes(r, most)
	default:
		w.at[path] = no
	}
}

func drawnName(r *rand.Rand) string {
	if r.Intn(12) == 0 {
		return pick(r, "...", "\x01", "\xff", "日", strings.Repeat("n", 28), "a\n", " ", "\"")
	}
	return pick(r, "a", "b", "c") + pick(r, "", "", "", ".", "-", "0")
}

// drawnBytes: a file's bytes, at most so many, pages of zeros and sizes at the pages' edges among them.
func drawnBytes(r *rand.Rand, most int) string {
	b := make([]byte, min(most, pick(r, 0, 1, 5, 511, 512, 513, 600, 1023, 1024, 1025, r.Intn(3000))))
	for off := 0; off < len(b); off += 512 {
		page := b[off:min(off+512, len(b))]
		switch r.Intn(4) {
		case 0:
		case 1:
			page[0] = 1
		case 2:
			page[len(page)-1] = 2
		default:
			for i := range page {
				page[i] = byte(r.Intn(3))
			}
		}
	}
	return string(b)
}

// otherBytes: a file's bytes with something changed, or not.
func otherBytes(r *rand.Rand, s string, most int) string {
	b := []byte(s)
	switch r.Intn(9) {
	case 0:
		return drawnBytes(r, most)
	case 1:
		b = b[:r.Intn(len(b)+1)]
	case 2:
		b = b[:len(b)/512*512]
	case 3:
		b = append(b, make([]byte, pick(r, 1, 5, 511, 512, 600, 512-len(b)%512))...)
	case 4:
		b = append(b, drawnBytes(r, most)...)
	case 5:
		if len(b) > 0 {
			b[r.Intn(len(b))] ^= byte(r.Intn(3))
		}
	case 6:
		off := r.Intn(len(b)/512+1) * 512
		clear(b[off:min(off+512, len(b))])
	case 7:
		if len(b) > 0 {
			b[len(b)-1] = 0
		}
	}
	return string(b[:min(len(b), most)])
}

// drawnWood: a tree of at most so many paths, whose files have at most so many bytes.
func drawnWood(r *rand.Rand, many, most int) *wood {
	w := &wood{at: map[string]int{}, bytes: map[int]string{}}
	for range r.Intn(many + 1) {
		w.grow(r, w.someDir(r)+drawnName(r), most)
	}
	return w
}

// other: a wood that is made of this one by some changes, or none.
func (w *wood) other(r *rand.Rand, many, most int) *wood {
	o := &wood{at: maps.Clone(w.at), bytes: maps.Clone(w.bytes)}
	for range r.Intn(6) {
		paths := o.paths()
		if len(paths) == 0 || r.Intn(4) == 0 && len(paths) < many {
			o.grow(r, o.someDir(r)+drawnName(r), most)
			continue
		}
		p := pick(r, paths...)
		switch no := o.at[p]; r.Intn(5) {
		case 0:
			o.cut(p)
		case 1: // something else stands there
			o.cut(p)
			o.grow(r, p, most)
		case 2:
			if no > 0 { // a file of its own
				fresh := 10 + r.Intn(1000)
				o.at[p], o.bytes[fresh] = fresh, o.bytes[no]
			}
		default:
			if no > 0 {
				o.bytes[no] = otherBytes(r, o.bytes[no], most)
			}
		}
	}
	return o
}

// drawnPair: two trees that have much in common, or little.
func drawnPair(r *rand.Rand, many, most int) (from, to []api.Member) {
	w := drawnWood(r, many, most)
	if r.Intn(4) == 0 {
		return w.members(), drawnWood(r, many, most).members()
	}
	return w.members(), w.other(r, many, most).members()
}

// anyPath: a path of the interface, of few names; now and then none at all.
func anyPath(r *rand.Rand) string {
	if r.Intn(15) == 0 {
		return pick(r, "", "/", "a", "/a/", "/a/../b", "//a", "/.", "\x00", "/"+strings.Repeat("n", 29), strings.Repeat("/n", 101), "/a\x00")
	}
	return pick(r, "", "", "/a", "/b", "/a/b") + "/" + pick(r, "a", "b", "c")
}

// anyStep: a step such as Apply may be given: mostly of a kind that it plays, its fields mostly such as aren't refused; fields that its kind doesn't have are set too.
func anyStep(r *rand.Rand) api.Step {
	s := api.Step{Kind: pick(r, 4, 5, 6, 7, 9, 11, 11, 12), A: anyPath(r), B: anyPath(r), N: pick(r, 0, 1, 512, 600, r.Intn(3000))}
	if s.Kind == api.StepWrite && r.Intn(4) > 0 {
		s.B = drawnBytes(r, 2000)
	}
	if r.Intn(8) == 0 {
		s.N = pick(r, wild...)
	}
	if r.Intn(12) == 0 {
		s.B = strings.Repeat("x", pick(r, 0, 4095, 4096, 4097))
	}
	if r.Intn(3) == 0 {
		s.M, s.K, s.List = pick(r, wild...), pick(r, wild...), []int{pick(r, wild...)}
	}
	if r.Intn(40) == 0 {
		s.Kind = pick(r, 0, 1, 2, 3, 8, 10, 13, 14, 15, 16, 17, 18, 19, 20, 21, 22, pick(r, wild...))
	}
	return s
}

func anySteps(r *rand.Rand, many int) []api.Step {
	var list []api.Step
	for range r.Intn(many + 1) {
		list = append(list, anyStep(r))
	}
	return list
}

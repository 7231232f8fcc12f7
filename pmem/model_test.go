package pmem_test

import (
	"bytes"
	"math/rand"
	"slices"
	"testing"

	"furrow/api"
	"furrow/pmem"
)

// cell and model: the chapter's words taken literally, one cell a word, with no thought of what it costs.
type cell struct {
	old  uint64
	news []uint64
	mark int
}

type model struct {
	cells []cell
	steps int
	left  int // below 0: not armed
}

func (m *model) dead() bool { return m.left == 0 }

func (m *model) step() bool {
	if m.dead() {
		return false
	}
	m.left--
	m.steps++
	return true
}

func (m *model) store(at int, v uint64) api.Errno {
	if !m.step() {
		return api.ErrDead
	}
	c := &m.cells[at/8]
	c.news = append(c.news, v)
	return api.OK
}

func (m *model) flush(at int) api.Errno {
	if !m.step() {
		return api.ErrDead
	}
	for i := at / 64 * 8; i < at/64*8+8; i++ {
		m.cells[i].mark = len(m.cells[i].news)
	}
	return api.OK
}

func (m *model) fence() api.Errno {
	if !m.step() {
		return api.ErrDead
	}
	for i := range m.cells {
		if c := &m.cells[i]; c.mark > 0 {
			*c = cell{old: c.news[c.mark-1], news: c.news[c.mark:]}
		}
	}
	return api.OK
}

func (m *model) doubts() []api.Doubt {
	var list []api.Doubt
	for i, c := range m.cells {
		if len(c.news) > 0 {
			list = append(list, api.Doubt{At: 8 * i, Old: c.old, News: c.news})
		}
	}
	return list
}

// image: the bytes of all words, each chosen from its values by pick: 0 the old one, j the j-th of the news.
func (m *model) image(pick func(doubt, news int) int) []byte {
	b := make([]byte, 8*len(m.cells))
	k := 0
	for i, c := range m.cells {
		v := c.old
		if len(c.news) > 0 {
			v = append([]uint64{c.old}, c.news...)[pick(k, len(c.news))]
			k++
		}
		for j := range 8 {
			b[8*i+j] = byte(v >> (8 * j))
		}
	}
	return b
}

func (m *model) view() []byte { return m.image(func(_, news int) int { return news }) }

func (m *model) crash(choices []int) []byte {
	return m.image(func(k, news int) int {
		if k >= len(choices) {
			return 0
		}
		return (choices[k]%(news+1) + news + 1) % (news + 1)
	})
}

func sameDoubt(a, b api.Doubt) bool {
	return a.At == b.At && a.Old == b.Old && slices.Equal(a.News, b.News)
}

// compare holds all that a device tells against the model.
func compare(t *testing.T, r *rand.Rand, d *pmem.Device, m *model) {
	t.Helper()
	if d.Steps() != m.steps || d.Dead() != m.dead() {
		t.Fatalf("Steps() = %d, Dead() = %v, want %d, %v", d.Steps(), d.Dead(), m.steps, m.dead())
	}
	if !slices.EqualFunc(d.Doubts(), m.doubts(), sameDoubt) {
		t.Fatalf("Doubts() = %v, want %v", d.Doubts(), m.doubts())
	}
	view := m.view()
	if !bytes.Equal(d.View(), view) {
		t.Fatalf("View() isn't the model's")
	}
	choices := make([]int, r.Intn(12))
	for i := range choices {
		choices[i] = r.Intn(21) - 10
	}
	if !bytes.Equal(d.Crash(choices), m.crash(choices)) {
		t.Fatalf("Crash(%v) isn't the model's", choices)
	}
	at := r.Intn(len(view) + 1)
	n := r.Intn(len(view) - at + 1)
	readsAs(t, d, at, n, view[at:at+n])
}

// act does one random thing to both.
func act(t *testing.T, r *rand.Rand, d *pmem.Device, m *model) {
	t.Helper()
	size := d.Size()
	switch at := r.Intn(size); r.Intn(8) {
	case 0, 1, 2:
		v := uint64(r.Intn(4))
		at -= at % 8
		answers(t, "Store", d.Store(at, v), m.store(at, v))
	case 3:
		at -= at % 8
		b := make([]byte, 8*r.Intn((size-at)/8+1))
		r.Read(b)
		want := api.OK
		for i := 0; i < len(b) && want == api.OK; i += 8 {
			want = m.store(at+i, wordOf(b, i))
		}
		answers(t, "Write", d.Write(at, b), want)
	case 4, 5:
		answers(t, "Flush", d.Flush(at), m.flush(at))
	case 6:
		n := r.Intn(size - at + 1)
		want := api.OK
		for line := at / 64; n > 0 && line <= (at+n-1)/64 && want == api.OK; line++ {
			want = m.flush(64 * line)
		}
		answers(t, "FlushAll", d.FlushAll(at, n), want)
	case 7:
		answers(t, "Fence", d.Fence(), m.fence())
	}
}

// TestAgainstModel: P1.4 to P1.12 over long random courses; the source of chance is a fixed one.
func TestAgainstModel(t *testing.T) {
	for seed := range int64(60) {
		r := rand.New(rand.NewSource(seed))
		size := 512 * (1 + r.Intn(4))
		d, m := fresh(t, size), &model{cells: make([]cell, size/8), left: -1}
		for i := range 120 {
			if i == 60 && seed%2 == 0 {
				left := r.Intn(400)
				m.left = left
				ok(t, d.Arm(left))
			}
			act(t, r, d, m)
			compare(t, r, d, m)
		}
	}
}

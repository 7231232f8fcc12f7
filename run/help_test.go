package run_test

import (
	"bytes"
	"errors"
	"fmt"
	"math/rand"
	"slices"
	"strings"
	"testing"

	"furrow/api"
	"furrow/fs"
	"furrow/layout"
	"furrow/mount"
	"furrow/pmem"
	"furrow/replay"
	"furrow/run"
	"furrow/script"
)

func chance() *rand.Rand { return rand.New(rand.NewSource(20)) }

func pick[T any](r *rand.Rand, l ...T) T { return l[r.Intn(len(l))] }

// plays: a script's lines with what each must tell behind "->"; lines that begin with two blanks belong to what is told ahead of them.
func plays(t *testing.T, lines ...string) {
	t.Helper()
	text, want := "", ""
	for _, l := range lines {
		if strings.HasPrefix(l, "  ") {
			want += l + "\n"
			continue
		}
		step, told, _ := strings.Cut(l, " -> ")
		text += step + "\n"
		want += told + "\n"
	}
	got, wanted := strings.Split(run.Run(text), "\n"), strings.Split(want, "\n")
	for i := range max(len(got), len(wanted)) {
		if i >= len(got) || i >= len(wanted) || got[i] != wanted[i] {
			t.Fatalf("Run(%q): line %d:\n got %q\nwant %q", text, i, got[min(i, len(got)):], wanted[min(i, len(wanted)):])
		}
	}
}

// steps: the steps of a text, in which no line is wrong.
func steps(t *testing.T, text string) []api.Step {
	t.Helper()
	list, errs := script.Parse(text)
	for i, e := range errs {
		if e != api.OK {
			t.Fatalf("step %d of %q: %v", i, text, e)
		}
	}
	return list
}

// told: the last text that the steps of a text tell.
func told(t *testing.T, text string) string {
	t.Helper()
	texts, _ := run.Play(steps(t, text))
	return texts[len(texts)-1]
}

// image: the bytes that the steps of a text leave.
func image(t *testing.T, text string) []byte {
	t.Helper()
	_, b := run.Play(steps(t, text))
	return b
}

// second: a run by the chapter's words, written down a second time.
type second struct {
	d *pmem.Device
	f *fs.FS
}

func reasonOf(err error) string {
	switch x := err.(type) {
	case api.Errno:
		return fmt.Sprintf("E%d", int(x))
	case *api.CorruptError:
		return fmt.Sprintf("E110 E%d %d", int(x.Reason), x.Place)
	case *api.PathError:
		return reasonOf(x.Err)
	}
	panic(err)
}

// tells: the step at a place (from 0 on).
func (x *second) tells(place int, s api.Step) string {
	if place >= 2000 {
		return "E203"
	}
	switch s.Kind {
	case 1, 17, 18, 19, 20, 21:
		return x.ofDevice(s)
	case 2, 3:
		return x.ofVolume(s)
	case 4, 5, 6, 7, 8, 9, 10, 11, 12, 13, 14, 15, 16:
		if x.f == nil {
			return "E201"
		}
		return x.operates(s)
	}
	return "E190"
}

// formats: StepMkfs.
func (x *second) formats(s api.Step) string {
	if x.f != nil {
		return "E202"
	}
	su := api.Super{Pages: s.N, Inodes: s.M, Cores: s.K}
	if _, e := layout.Fit(su); e != api.OK {
		return "E30"
	}
	if x.d == nil || x.d.Size() != 512*s.N {
		x.d, _ = pmem.New(512 * s.N)
	}
	if err := fs.Mkfs(x.d, su); err != nil {
		return reasonOf(err)
	}
	return "ok"
}

func (x *second) ofDevice(s api.Step) string {
	if s.Kind == 1 {
		return x.formats(s)
	}
	if x.d == nil {
		return "E200"
	}
	switch s.Kind {
	case 17:
		if e := x.d.Arm(s.N); e != api.OK {
			return reasonOf(e)
		}
	case 18:
		x.f = nil
		x.d, _ = pmem.Load(x.d.Crash(s.List))
	case 19:
		return x.pokes(s)
	case 20:
		return stateOr(replay.Replay(x.d.View()))
	case 21:
		return stateOr(mount.Mount(x.d.View(), s.N, s.List))
	}
	return "ok"
}

func (x *second) pokes(s api.Step) string {
	if x.f != nil {
		return "E202"
	}
	if x.d.Dead() {
		return "E13"
	}
	b := x.d.View()
	if s.N < 0 || s.N >= len(b) {
		return "E11"
	}
	if s.M < 0 || s.M >= 256 {
		return "E14"
	}
	b[s.N] = byte(s.M)
	x.d, _ = pmem.Load(b)
	return "ok"
}

func (x *second) ofVolume(s api.Step) string {
	if s.Kind == 3 {
		if x.f == nil {
			return "E201"
		}
		if err := x.f.Unmount(); err != nil {
			return reasonOf(err)
		}
		x.f = nil
		return "ok"
	}
	if x.d == nil {
		return "E200"
	}
	if x.f != nil {
		return "E202"
	}
	f, err := fs.Mount(x.d, s.N, s.List)
	if err != nil {
		return reasonOf(err)
	}
	x.f = f
	return fmt.Sprintf("ok E%d", int(f.Why()))
}

func (x *second) operates(s api.Step) string {
	var err error
	text := "ok"
	switch s.Kind {
	case 4:
		err = x.f.Create(s.A)
	case 5:
		err = x.f.Mkdir(s.A)
	case 6:
		err = x.f.Unlink(s.A)
	case 7:
		err = x.f.Rmdir(s.A)
	case 8:
		err = x.f.Rename(s.A, s.B)
	case 9:
		err = x.f.Link(s.A, s.B)
	case 11:
		err = x.f.Write(s.A, s.N, s.B)
	case 12:
		err = x.f.Truncate(s.A, s.N)
	default:
		text, err = x.asks(s)
	}
	if err != nil {
		return reasonOf(err)
	}
	return text
}

func statOf(s api.Stat) string {
	return fmt.Sprintf("%d %s %d %d %d", s.Ino, map[int]string{1: "file", 2: "dir"}[s.Kind], s.Size, s.Links, s.Pages)
}

func (x *second) asks(s api.Step) (string, error) {
	switch s.Kind {
	case 10:
		b, err := x.f.Read(s.A, s.N, s.M)
		return "ok " + script.Quote(b), err
	case 13:
		st, err := x.f.Stat(s.A)
		return "ok " + statOf(st), err
	case 14:
		list, err := x.f.ReadDir(s.A)
		text := "ok"
		for _, d := range list {
			text += fmt.Sprintf(" %s %d", script.Quote(d.Name), d.Ino)
		}
		return text, err
	case 15:
		items, err := x.f.Walk()
		text := "ok"
		for _, i := range items {
			text += fmt.Sprintf("\n  %s %s", script.Quote(i.Path), statOf(i.Stat))
			if i.Stat.Kind == 1 {
				text += fmt.Sprintf(" %d", i.Sum)
			}
		}
		return text, err
	case 16:
		i, err := x.f.Info()
		return fmt.Sprintf("ok %d %d %d %d", i.Pages, i.FreePages, i.Inodes, i.FreeInodes), err
	}
	return "", errors.New("no such kind")
}

func stateOr(st api.State, err error) string {
	if err != nil {
		return reasonOf(err)
	}
	return "ok\n" + linesOf(st)
}

// linesOf: a state's lines by the chapter's words.
func linesOf(st api.State) string {
	text := fmt.Sprintf("  shape %d %d %d\n", st.Shape.Pages, st.Shape.Inodes, st.Shape.Cores)
	for _, n := range st.Nodes {
		kind := "free"
		switch n.Kind {
		case 1:
			kind = "file"
		case 2:
			kind = "dir"
		}
		text += fmt.Sprintf("  inode %d %s %d size %d head %d tail %d entries %d", n.Ino, kind, n.Links, n.Size, n.Head, n.Tail, n.Entries)
		if len(n.Log) > 0 {
			text += " log " + strings.Trim(fmt.Sprint(n.Log), "[]")
		}
		if n.Kind == 1 && len(n.Map) > 0 {
			text += " map"
			for _, r := range n.Map {
				text += fmt.Sprintf(" %d:%d+%d", r.Off, r.Page, r.Count)
			}
		}
		if n.Kind == 2 && len(n.Names) > 0 {
			text += " names"
			for _, d := range n.Names {
				text += fmt.Sprintf(" %s %d", script.Quote(d.Name), d.Ino)
			}
		}
		text += "\n"
	}
	text += "  free"
	for _, s := range st.Free {
		text += fmt.Sprintf(" %d+%d", s.From, s.Count)
	}
	return text
}

// holds: whether Play tells what the second player tells, and leaves the same bytes; and Run the same of the steps' text, if they have one. What was told.
func holds(t *testing.T, list []api.Step) []string {
	t.Helper()
	got, left := run.Play(list)
	var x second
	if len(got) != len(list) {
		t.Fatalf("P20.1: %d steps told %d texts", len(list), len(got))
	}
	for i, s := range list {
		if want := x.tells(i, s); got[i] != want {
			t.Fatalf("step %d, %s:\n got %q\nwant %q\nbehind %s", i, shown(list[i:i+1]), got[i], want, shown(list[:i]))
		}
	}
	if x.d == nil && left != nil || x.d != nil && !bytes.Equal(left, x.d.View()) {
		t.Fatalf("P20.7: other bytes are left behind %s", shown(list))
	}
	if text := script.Text(list); text != "" {
		if told := run.Run(text); told != strings.Join(got, "\n")+"\n" {
			t.Fatalf("P20.6: Run tells %.3000q, Play %.3000q: %s", told, got, shown(list))
		}
	}
	return got
}

// without: the elements of a list but those at the places for which gone holds.
func without[T any](list []T, gone func(i int) bool) []T {
	var left []T
	for i, x := range list {
		if !gone(i) {
			left = append(left, x)
		}
	}
	return left
}

// reads: whether a step is one that reads.
func reads(s api.Step) bool {
	return slices.Contains([]int{api.StepRead, api.StepStat, api.StepList, api.StepWalk, api.StepInfo, api.StepState, api.StepScan}, s.Kind)
}

// shown: steps as a failure tells them.
func shown(list []api.Step) string {
	text := ""
	for _, s := range list {
		text += fmt.Sprintf("\n%d %.40q %.40q %d %d %d %v", s.Kind, s.A, s.B, s.N, s.M, s.K, s.List)
	}
	return text
}

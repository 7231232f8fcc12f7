package script_test

import (
	"math"
	"slices"
	"strings"
	"testing"

	"furrow/api"
	"furrow/script"
)

// told: a line, and the step or the error that the chapter's examples want.
type told struct {
	line string
	s    api.Step
	e    api.Errno
}

func holdAll(t *testing.T, list []told) {
	t.Helper()
	for _, c := range list {
		if s, e := script.Line(c.line); e != c.e || !same(s, c.s) {
			t.Errorf("Line(%.60q) = %+v, %d, want %+v, %d", c.line, s, e, c.s, c.e)
		}
	}
}

func TestExample1(t *testing.T) {
	made := api.Step{Kind: 1, N: 24, M: 8, K: 1}
	holdAll(t, []told{
		{"mkfs 24 8 1", made, api.OK}, {"  mkfs  24 8   1 ", made, api.OK},
		{"mkfs 24 8", api.Step{}, api.ErrStepArgs}, {"mkfs 24 8 1 1", api.Step{}, api.ErrStepArgs}, {"mkfs 24 8 x", api.Step{}, api.ErrStepNum}, {"mkfs 24 8 01", api.Step{}, api.ErrStepNum}, {`mkfs 24 8 "1"`, api.Step{}, api.ErrStepArgs},
	})
}

func TestExample2(t *testing.T) {
	holdAll(t, []told{{`write "/a b" -5 "x\n\x00\""`, api.Step{Kind: 11, A: "/a b", N: -5, B: "x\n\x00\""}, api.OK}})
}

func TestExample3(t *testing.T) {
	holdAll(t, []told{
		{`write /a 0 "x"`, api.Step{}, api.ErrStepArgs}, {`write "/a"0 "x"`, api.Step{}, api.ErrStepText}, {`write "/a" 0 "x`, api.Step{}, api.ErrStepText}, {`write "/a" 0 "\q"`, api.Step{}, api.ErrStepText},
		{`frob "\q"`, api.Step{}, api.ErrStepText}, {`frob "q"`, api.Step{}, api.ErrStepKind}, {`fr"b`, api.Step{}, api.ErrStepText},
	})
}

func TestExample4(t *testing.T) {
	for _, line := range []string{"", "   ", "MKFS 24 8 1", "#", `"mkfs" 1 2 3`} {
		holdAll(t, []told{{line, api.Step{}, api.ErrStepKind}})
	}
}

func TestExample5(t *testing.T) {
	holdAll(t, []told{
		{"mount 3", api.Step{Kind: 2, N: 3}, api.OK}, {"mount 3 -1 0 9223372036854775807", api.Step{Kind: 2, N: 3, List: []int{-1, 0, math.MaxInt}}, api.OK}, {"mount 3 9223372036854775808", api.Step{}, api.ErrStepNum},
		{"mount", api.Step{}, api.ErrStepArgs}, {"mount -9223372036854775808", api.Step{Kind: 2, N: math.MinInt}, api.OK},
	})
}

func TestExample6(t *testing.T) {
	holdAll(t, []told{{"crash", api.Step{Kind: 18}, api.OK}, {"crash 1 1", api.Step{Kind: 18, List: []int{1, 1}}, api.OK}, {"crash -0", api.Step{}, api.ErrStepNum}, {"walk 1", api.Step{}, api.ErrStepArgs}})
}

func TestExample7(t *testing.T) {
	if q := script.Quote(string([]byte{'a', 34, 92, 10, 9, 127, 200})); q != `"a\"\\\n\x09\x7f\xc8"` {
		t.Errorf("Quote = %s", q)
	}
	if s, n, e := script.Unquote(`"a\x41" and something behind it`); s != "aA" || n != 7 || e != api.OK {
		t.Errorf("Unquote = %q, %d, %d", s, n, e)
	}
	for _, text := range []string{`"\xAB"`, ""} {
		if s, n, e := script.Unquote(text); s != "" || n != 0 || e != api.ErrStepText {
			t.Errorf("Unquote(%q) = %q, %d, %d", text, s, n, e)
		}
	}
}

func TestExample8(t *testing.T) {
	steps, errs := script.Parse("mkfs 24 8 1\n\n # made\nmount 1\nfrob")
	if !slices.EqualFunc(steps, []api.Step{{Kind: 1, N: 24, M: 8, K: 1}, {Kind: 2, N: 1}, {}}, same) || !slices.Equal(errs, []api.Errno{api.OK, api.OK, api.ErrStepKind}) {
		t.Errorf("Parse = %+v, %v", steps, errs)
	}
	for _, text := range []string{"", "\n\n"} {
		if steps, errs := script.Parse(text); len(steps) != 0 || len(errs) != 0 {
			t.Errorf("Parse(%q) = %+v, %v", text, steps, errs)
		}
	}
	steps, errs = script.Parse("walk\r\n")
	if !slices.EqualFunc(steps, []api.Step{{}}, same) || !slices.Equal(errs, []api.Errno{api.ErrStepKind}) {
		t.Errorf("Parse = %+v, %v", steps, errs)
	}
}

func TestExample9(t *testing.T) {
	for _, c := range []struct {
		s    api.Step
		line string
	}{{api.Step{Kind: 2, N: 3, List: []int{1}}, "mount 3 1"}, {api.Step{Kind: 15, N: 1}, ""}, {api.Step{}, ""}, {api.Step{Kind: 11, A: "a", B: strings.Repeat("b", 20000)}, ""}} {
		if line := script.Print(c.s); line != c.line {
			t.Errorf("Print(%.60v) = %.60q, want %q", c.s, line, c.line)
		}
	}
}

func TestExample10(t *testing.T) {
	for _, c := range []struct {
		list []api.Step
		text string
	}{{[]api.Step{{Kind: 15}, {Kind: 16}}, "walk\ninfo\n"}, {[]api.Step{{Kind: 15}, {}}, ""}, {nil, ""}} {
		if text := script.Text(c.list); text != c.text {
			t.Errorf("Text(%+v) = %q, want %q", c.list, text, c.text)
		}
	}
}

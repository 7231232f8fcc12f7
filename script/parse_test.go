package script_test

import (
	"slices"
	"strings"
	"testing"

	"furrow/api"
	"furrow/script"
)

// holdParse: Parse of a text, which must be what the chapter's words make of it.
func holdParse(t *testing.T, text string) {
	t.Helper()
	var steps []api.Step
	var errs []api.Errno
	for text, more := text, true; more; {
		var l string
		l, text, more = strings.Cut(text, "\n")
		if rest := strings.TrimLeft(l, " "); rest == "" || rest[0] == 35 {
			continue
		}
		s, e := line(l)
		steps, errs = append(steps, s), append(errs, e)
	}
	got, gotErrs := script.Parse(text)
	if !slices.EqualFunc(got, steps, same) || !slices.Equal(gotErrs, errs) {
		t.Errorf("P19.4: Parse(%.90q) = %.200v, %v, want %.200v, %v", text, got, gotErrs, steps, errs)
	}
}

// Lines that are passed over, and such as look like them and aren't.
func TestP19_4PassedOver(t *testing.T) {
	long := strings.Repeat("x", 30000)
	for _, text := range []string{"", " ", "\n", "\n\n\n", "   \n  \n ", "#", "  #", "# walk", "#walk\n   # info", "#\"", "##", "# \x00\xff\"\\", "#" + long, "  #" + long, strings.Repeat(" ", 30000), strings.Repeat(" ", 30000) + "#" + long, "\n#" + long + "\n\n"} {
		if steps, errs := script.Parse(text); len(steps) != 0 || len(errs) != 0 {
			t.Errorf("P19.4: Parse(%.30q) = %+v, %v", text, steps, errs)
		}
	}
	for _, c := range []struct {
		text string
		e    api.Errno
	}{{"\t", api.ErrStepKind}, {"\r", api.ErrStepKind}, {"\t#", api.ErrStepKind}, {" \t", api.ErrStepKind}, {"\x00", api.ErrStepKind}, {"walk #", api.ErrStepArgs}, {"walk# ", api.ErrStepKind}, {"\"#", api.ErrStepText}, {long, api.ErrStepLong}, {strings.Repeat(" ", 20001) + "x", api.ErrStepLong}, {"\v", api.ErrStepKind}, {"\u00a0", api.ErrStepKind}, {";", api.ErrStepKind}, {"//", api.ErrStepKind}} {
		steps, errs := script.Parse(c.text)
		if !slices.EqualFunc(steps, []api.Step{{}}, same) || !slices.Equal(errs, []api.Errno{c.e}) {
			t.Errorf("P19.4: Parse(%.30q) = %+v, %v, want %d", c.text, steps, errs, c.e)
		}
	}
}

// The bytes 10 part lines, also where they stand in quotes, at the beginning and at the end.
func TestP19_4Lines(t *testing.T) {
	for _, text := range []string{"walk", "walk\n", "\nwalk", "\n\nwalk\n\n", "walk\ninfo", "walk\ninfo\n", "walk\n#\ninfo", "stat \"a\nb\"", "stat \"a\\nb\"", "stat\n\"a\"", "walk\rinfo", "walk\r\ninfo\r\n", "walk\x00\ninfo", "walk\u2028info", "walk\fwalk", "frob\nwalk\nfrob", "mkfs 1 2\n3", " walk \n  info  \n"} {
		holdParse(t, text)
	}
	for c := range 256 {
		at := string([]byte{byte(c)})
		holdParse(t, "walk"+at+"info")
		holdParse(t, at+"walk")
		holdParse(t, "walk\n"+at)
		holdParse(t, "walk\n "+at+" walk\n")
	}
}

// A line that is refused stands in the way of no other.
func TestP19_4Each(t *testing.T) {
	lines := []string{"walk", "frob", "mkfs 1 2 3", "mkfs 1 2", "mount x", "stat \"", strings.Repeat("y", 20001), "crash 1 2 3", "", "# none", "scan 1"}
	for _, a := range lines {
		for _, b := range lines {
			for _, c := range lines {
				holdParse(t, a+"\n"+b+"\n"+c)
			}
		}
	}
}

func TestP19_4Drawn(t *testing.T) {
	r := chance()
	parts := []string{"walk", "info", "mount 1", "crash 1 2", "frob", "stat \"a\"", "stat \"\\q\"", "#", "\n", "\n", "\n", " ", "\t", "\"", "\n#", "\n \n", "x", "1", " 2", "\r\n"}
	for range 20000 {
		text := ""
		for range r.Intn(12) {
			text += pick(r, parts)
		}
		holdParse(t, text)
	}
}

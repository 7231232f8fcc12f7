package path_test

import (
	"slices"
	"strings"
	"testing"

	"furrow/api"
	"furrow/path"
)

func checkParse(t *testing.T, text string) {
	t.Helper()
	want, we := parse(text)
	if p, e := path.Parse(text); e != we || !same(p, want) {
		t.Fatalf("P14.1: Parse(%q) = %+v, %d, want %+v, %d", text, p, e, want, we)
	}
}

// Every text of up to six bytes out of a few that matter.
func TestP14_1Short(t *testing.T) {
	var grow func(text string)
	grow = func(text string) {
		checkParse(t, text)
		if len(text) == 6 {
			return
		}
		for _, c := range []string{"/", ".", "a", "\x00", "\xff"} {
			grow(text + c)
		}
	}
	grow("")
}

func TestP14_1EachByte(t *testing.T) {
	for c := range 256 {
		b := string([]byte{byte(c)})
		for _, text := range []string{b, "/" + b, b + "/", "/" + b + "/", "/a" + b + "c", "/a/" + b, "/" + strings.Repeat("n", 27) + b, "/" + strings.Repeat("n", 28) + b} {
			checkParse(t, text)
		}
	}
}

func TestP14_1Lengths(t *testing.T) {
	for n := range 240 {
		for _, text := range []string{strings.Repeat("/", n), "/" + strings.Repeat("n", n), "/" + strings.Repeat("n", n) + "/", "//a/" + strings.Repeat(".", n), strings.Repeat("n", n), strings.Repeat("/n", n), strings.Repeat("/", n) + "x", strings.Repeat("/", n) + "\x00", "/" + strings.Repeat("\x00", n)} {
			checkParse(t, text)
		}
	}
	checkParse(t, strings.Repeat("/a", 1<<20))
}

// Of several errors the first: a text is made wrong in all the ways that it can be.
func TestP14_1Order(t *testing.T) {
	n29 := "/" + strings.Repeat("n", 29)
	long := strings.Repeat("/", 200)
	for _, c := range []struct {
		text string
		e    api.Errno
	}{
		{long + n29, api.ErrPathLong}, {"x" + long, api.ErrPathLong}, {long + "\x00", api.ErrPathLong}, {"\x00" + long + n29, api.ErrPathLong},
		{n29 + "/\x00", api.ErrPathForm}, {"\x00" + n29, api.ErrPathForm}, {"." + n29, api.ErrPathForm}, {n29 + "/..", api.ErrNameLong}, {"/.." + n29, api.ErrNameLong}, {"/a" + n29 + "/", api.ErrNameLong},
	} {
		if p, e := path.Parse(c.text); e != c.e || len(p.Parts) != 0 || p.Slash {
			t.Errorf("P14.1: Parse(%q) = %+v, %d, want the zero Path, %d", c.text, p, e, c.e)
		}
	}
}

func TestP14_1Drawn(t *testing.T) {
	r := chance()
	for range 20000 {
		text := pick(r, []string{"/", "/", "/", "/", "", "a", ".", "//"})
		for range r.Intn(12) {
			text += pick(r, odd[:38]) + pick(r, []string{"/", "/", "//", ""})
		}
		checkParse(t, text)
	}
}

// canTell: whether some text is read as p, and that text, by putting it together and reading it.
func canTell(p api.Path) string {
	text := "/" + strings.Join(p.Parts, "/")
	if p.Slash {
		text += "/"
	}
	if q, e := parse(text); e != api.OK || !same(p, q) {
		return ""
	}
	return text
}

func checkText(t *testing.T, p api.Path) {
	t.Helper()
	want := canTell(p)
	s := path.Text(p)
	if s != want {
		t.Fatalf("P14.2: Text(%q, %v) = %q, want %q", p.Parts, p.Slash, s, want)
	}
	if s == "" {
		return
	}
	if q, e := path.Parse(s); e != api.OK || !same(p, q) {
		t.Fatalf("P14.2: Parse(Text(%+v)) = %+v, %d", p, q, e)
	}
}

func TestP14_2Parts(t *testing.T) {
	checkText(t, pa(false))
	checkText(t, pa(true))
	for _, slash := range []bool{false, true} {
		for _, a := range odd {
			checkText(t, pa(slash, a))
			for _, b := range odd {
				checkText(t, pa(slash, a, b))
				checkText(t, pa(slash, "x", a, b))
			}
		}
		for c := range 256 {
			checkText(t, pa(slash, string([]byte{byte(c)})))
			checkText(t, pa(slash, "a", "b"+string([]byte{byte(c)})+"c", "d"))
		}
	}
}

func TestP14_2Lengths(t *testing.T) {
	for _, slash := range []bool{false, true} {
		for n := range 110 {
			checkText(t, pa(slash, slices.Repeat([]string{"a"}, n)...))
		}
		for n := range 32 {
			checkText(t, pa(slash, strings.Repeat("n", n)))
			checkText(t, pa(slash, append(slices.Repeat([]string{strings.Repeat("n", 28)}, 6), strings.Repeat("m", n))...))
		}
		checkText(t, pa(slash, slices.Repeat([]string{"abc"}, 1<<16)...))
		checkText(t, pa(slash, strings.Repeat("n", 1<<22)))
	}
}

// Text of what Parse read is no longer than the text was, and is read as the same.
func TestP14_2Shortest(t *testing.T) {
	for text, want := range map[string]string{"/": "/", "////": "/", "//a": "/a", "/a//": "/a/", "//a///b///": "/a/b/", "/./": "/./", "/..//.": "/../."} {
		if s := path.Text(read(t, text)); s != want {
			t.Errorf("P14.2: Text of %q's path = %q, want %q", text, s, want)
		}
	}
}

// cleaned: Clean by the chapter's words, on a text with a slash behind each part that is left.
func cleaned(p api.Path) api.Path {
	list := []string{}
	for _, part := range p.Parts {
		if part == "." {
			continue
		}
		if part == ".." {
			if len(list) > 0 {
				list = slices.Delete(list, len(list)-1, len(list))
			}
			continue
		}
		list = append(list, part)
	}
	if len(list) == 0 {
		return api.Path{}
	}
	last := p.Parts[len(p.Parts)-1]
	return api.Path{Parts: list, Slash: p.Slash || last == "." || last == ".."}
}

func checkClean(t *testing.T, p api.Path) {
	t.Helper()
	was := copyOf(p)
	c := path.Clean(p)
	if want := cleaned(p); !same(c, want) {
		t.Fatalf("P14.3: Clean(%+v) = %+v, want %+v", was, c, want)
	}
	if !same(p, was) {
		t.Fatalf("P14.3: Clean changed %+v to %+v", was, p)
	}
	if again := path.Clean(c); !same(again, c) {
		t.Fatalf("P14.3: Clean of the clean %+v = %+v", c, again)
	}
}

// Every path of up to six parts out of a few that matter.
func TestP14_3Short(t *testing.T) {
	var grow func(parts []string)
	grow = func(parts []string) {
		checkClean(t, pa(false, parts...))
		checkClean(t, pa(true, parts...))
		if len(parts) == 6 {
			return
		}
		for _, part := range []string{".", "..", "a", "b", ""} {
			grow(append(slices.Clone(parts), part))
		}
	}
	grow(nil)
}

func TestP14_3Odd(t *testing.T) {
	r := chance()
	for range 5000 {
		p := api.Path{Slash: r.Intn(2) == 0}
		for range r.Intn(9) {
			p.Parts = append(p.Parts, pick(r, odd))
		}
		checkClean(t, p)
	}
	many := append(slices.Repeat([]string{"a"}, 1<<16), slices.Repeat([]string{".."}, 1<<16-1)...)
	checkClean(t, pa(false, many...))
	checkClean(t, pa(true, append(many, "..", "..")...))
}

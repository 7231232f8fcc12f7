package fs_test

import (
	"fmt"
	"reflect"
	"testing"

	"furrow/api"
	"furrow/fs"
)

// op: a call of one of the methods, by the name that its errors tell.
type op struct {
	name string
	a, b string // the path; of rename and link the other one, of write the data
	n, m int
}

func create(a string) op                 { return op{name: "create", a: a} }
func mkdir(a string) op                  { return op{name: "mkdir", a: a} }
func unlink(a string) op                 { return op{name: "unlink", a: a} }
func rmdir(a string) op                  { return op{name: "rmdir", a: a} }
func rename(a, b string) op              { return op{name: "rename", a: a, b: b} }
func link(a, b string) op                { return op{name: "link", a: a, b: b} }
func read(a string, n, m int) op         { return op{name: "read", a: a, n: n, m: m} }
func write(a string, n int, b string) op { return op{name: "write", a: a, b: b, n: n} }
func truncate(a string, n int) op        { return op{name: "truncate", a: a, n: n} }
func stat(a string) op                   { return op{name: "stat", a: a} }
func readdir(a string) op                { return op{name: "readdir", a: a} }
func (o op) String() string {
	return fmt.Sprintf("%s(%.60q, %.60q, %d, %d)", o.name, o.a, o.b, o.n, o.m)
}
func (a answer) is(b answer) bool { return reflect.DeepEqual(a.whole(), b.whole()) }

// answer: all that a method may answer.
type answer struct {
	text  string
	stat  api.Stat
	list  []api.Dent
	items []api.Item
	info  api.Info
	e     api.Errno
}

// whole: an answer in which an empty list is nil.
func (a answer) whole() answer {
	if len(a.list) == 0 {
		a.list = nil
	}
	if len(a.items) == 0 {
		a.items = nil
	}
	return a
}

// on: the call. Its error stands beside the answer.
func (o op) on(f *fs.FS) (a answer, err error) {
	switch o.name {
	case "create":
		err = f.Create(o.a)
	case "mkdir":
		err = f.Mkdir(o.a)
	case "unlink":
		err = f.Unlink(o.a)
	case "rmdir":
		err = f.Rmdir(o.a)
	case "rename":
		err = f.Rename(o.a, o.b)
	case "link":
		err = f.Link(o.a, o.b)
	case "read":
		a.text, err = f.Read(o.a, o.n, o.m)
	case "write":
		err = f.Write(o.a, o.n, o.b)
	case "truncate":
		err = f.Truncate(o.a, o.n)
	case "stat":
		a.stat, err = f.Stat(o.a)
	case "readdir":
		a.list, err = f.ReadDir(o.a)
	case "walk":
		a.items, err = f.Walk()
	case "info":
		a.info, err = f.Info()
	case "unmount":
		err = f.Unmount()
	default:
		panic(o.name)
	}
	return a, err
}

// told: 18.1: the reason that an answer tells, OK for none; whether an error is what errors are, and stands by itself.
func told(t *testing.T, o op, a answer, err error) api.Errno {
	t.Helper()
	if err == nil {
		return api.OK
	}
	p, is := err.(*api.PathError)
	if !is || p == nil {
		t.Fatalf("%v: the error is a %T: %v", o, err, err)
	}
	e, is := p.Err.(api.Errno)
	if !is || e == api.OK {
		t.Fatalf("%v: the reason is a %T: %v", o, p.Err, p.Err)
	}
	if p.Op != o.name || p.Path != o.a {
		t.Fatalf("%v: the error tells of %q %q", o, p.Op, p.Path)
	}
	if !a.is(answer{}) {
		t.Fatalf("%v: beside %v stands %+v", o, err, a)
	}
	return e
}

// asks: the call, with its reason in the answer.
func asks(t *testing.T, f *fs.FS, o op) answer {
	t.Helper()
	a, err := o.on(f)
	a.e = told(t, o, a, err)
	return a
}

// cost: R10: how many free pages are enough.
func (o op) cost() int {
	switch o.name {
	case "create", "mkdir", "unlink", "rmdir", "link":
		return 1
	case "rename", "truncate":
		return 2
	case "write":
		return (o.n+len(o.b)-1)/512 - o.n/512 + 1 + 2
	}
	return 0
}

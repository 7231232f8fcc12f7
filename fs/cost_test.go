package fs_test

import (
	"strings"
	"testing"

	"furrow/api"
)

// scene: a device's bytes, and the operations that made them.
type scene struct {
	image []byte
	ops   []op
	free  int
}

// narrowed: scenes behind these operations in which fewer and fewer pages are free, from so many on; what fills the device is /fill.
func narrowed(t *testing.T, s api.Super, ops []op, from int) []scene {
	t.Helper()
	d, f := fresh(t, s)
	did(t, f, ops...)
	did(t, f, create("/fill"))
	ops = append(ops[:len(ops):len(ops)], create("/fill"))
	var list []scene
	for page := 0; ; page++ {
		free := freeOf(t, d)
		if free <= from {
			list = append(list, scene{d.View(), ops[:len(ops):len(ops)], free})
		}
		o := write("/fill", 512*page, "x")
		if _, err := o.on(f); err != nil {
			if told(t, o, answer{}, err) != api.ErrNoSpace {
				t.Fatalf("%v = %v", o, err)
			}
			return list
		}
		ops = append(ops, o)
	}
}

// tries: each operation in each scene, by itself. With how many free pages at most each was refused for want of space is put down.
func tries(t *testing.T, s api.Super, scenes []scene, refused map[string]int, ops ...op) {
	t.Helper()
	for _, c := range scenes {
		b := besideOf(t, c.image, grown(s, c.ops))
		for _, o := range ops {
			switch e := b.does(t, o); e { // does asks for R10
			case api.ErrNoSpace:
				refused[o.name] = max(refused[o.name], c.free)
			case api.OK:
				b = besideOf(t, c.image, grown(s, c.ops))
			default:
				t.Fatalf("%v = %v", o, e)
			}
		}
	}
}

// padded: operations that put so many entries into the logs of the root, of /a, of /a/f and of /w, and leave all else as it is.
func padded(n int) []op {
	var list []op
	for i := range n {
		if i%2 == 0 {
			list = append(list, link("/g", "/pad"), link("/g", "/a/pad"))
		} else {
			list = append(list, unlink("/pad"), unlink("/a/pad"))
		}
		list = append(list, truncate("/a/f", 3000+i), truncate("/w", 5000+i))
	}
	return list
}

// TestR10Costs: each operation, where the logs that it writes to have room or none, with few free pages and none: it is done where as many are free as R10 says.
func TestR10Costs(t *testing.T) {
	refused := map[string]int{}
	s := api.Super{Pages: 60, Inodes: 16, Cores: 2}
	for pad := range 9 {
		ops := append([]op{mkdir("/a"), mkdir("/b"), create("/a/f"), write("/a/f", 0, strings.Repeat("f", 1500)), create("/w"), create("/g"), mkdir("/e"), link("/g", "/b/g")}, padded(pad)...)
		tries(t, s, narrowed(t, s, ops, 14), refused,
			create("/new"), create("/e/new"), mkdir("/a/new"), mkdir("/e/new"), unlink("/a/f"), unlink("/g"), rmdir("/e"), link("/g", "/a/new"), link("/g", "/e/new"),
			rename("/a/f", "/new"), rename("/a/f", "/e/new"), rename("/a/f", "/g"), rename("/b/g", "/a/f"), rename("/b", "/e"), rename("/a", "/e/a"),
			truncate("/a/f", 700), truncate("/a/f", 512), truncate("/a/f", 9000), truncate("/w", 0),
			write("/a/f", 600, "x"), write("/w", 511, "xy"), write("/w", 0, strings.Repeat("w", 4096)), write("/w", 1, strings.Repeat("w", 4096)))
	}
	for name, most := range map[string]int{"create": 0, "mkdir": 0, "unlink": 0, "rmdir": 0, "link": 0, "rename": 1, "truncate": 1} {
		if free, was := refused[name]; !was || free != most {
			t.Errorf("%s was refused with %d free pages (%v) at most; in the worst case it needs %d", name, free, was, most+1)
		}
	}
}

// scattered: scenes in which the free pages lie apart: two files take pages in turn till none is free, then one of them goes; few pages more are taken from scene to scene. The log of /w has so many entries.
func scattered(t *testing.T, s api.Super, entries int) []scene {
	t.Helper()
	ops := []op{create("/w"), create("/a"), create("/b")}
	for i := range entries {
		ops = append(ops, truncate("/w", i+1))
	}
	for i := range 13 {
		ops = append(ops, write("/a", 512*i, "a"), write("/b", 512*i, "b"))
	}
	full := narrowed(t, s, ops, 1)
	last := full[len(full)-1]
	d := load(t, last.image)
	f := mounts(t, d)
	var list []scene
	for i, o := range []op{unlink("/b"), create("/0"), write("/0", 0, "x"), write("/0", 512, "x"), write("/0", 1024, "x"), write("/0", 1536, "x"), write("/0", 2048, "x")} {
		if asks(t, f, o).e != api.OK {
			t.Fatalf("step %d: %v is refused", i, o)
		}
		last = scene{d.View(), append(last.ops[:len(last.ops):len(last.ops)], o), freeOf(t, d)}
		list = append(list, last)
	}
	return list
}

// TestR10Scattered: a write of nine pages, none of which stands beside another: nine entries, which may want two pages more.
func TestR10Scattered(t *testing.T) {
	refused := map[string]int{}
	s := api.Super{Pages: 60, Inodes: 16, Cores: 1}
	for entries := range 13 {
		tries(t, s, scattered(t, s, entries), refused, write("/w", 1, strings.Repeat("w", 4096)))
	}
	if refused["write"] != 10 {
		t.Errorf("a write of nine pages was refused with %d free pages at most; in the worst case it needs 11", refused["write"])
	}
}

package archive_test

import (
	"bytes"
	"math/rand"
	"reflect"
	"strings"
	"testing"

	"furrow/api"
	"furrow/archive"
	"furrow/fs"
	"furrow/pmem"
)

// crashes: what a loss of power may leave of the device: the two ends, and some that are drawn.
func crashes(r *rand.Rand, d *pmem.Device, many int) [][]byte {
	doubts := d.Doubts()
	list := [][]byte{d.Crash(nil), d.View()}
	if len(doubts) == 0 {
		return list[1:]
	}
	choices := make([]int, len(doubts))
	for len(list) < many {
		for k := range choices {
			choices[k] = r.Int()
		}
		list = append(list, d.Crash(choices))
	}
	return list
}

// stages: the trees behind no operation, behind the first one, the first two and so on, of an Unpack; and of how many members each operation is.
func stages(t *testing.T, image []byte, base string, list []api.Member) (trees [][]string, member []int) {
	t.Helper()
	f := mounts(t, load(t, image))
	trees = append(trees, looks(t, f))
	for k, m := range list {
		for _, o := range opsOf(base, m) {
			did(t, o.on(f))
			trees = append(trees, looks(t, f))
			member = append(member, k)
		}
	}
	return trees, member
}

// answered: how many operations of an Unpack by hand answer, on a device that goes dead behind so many steps; and that device.
func answered(t *testing.T, image []byte, base string, list []api.Member, steps int) (int, *pmem.Device) {
	t.Helper()
	d := load(t, image)
	f := mounts(t, d)
	d.Arm(steps)
	done := 0
	for _, m := range list {
		for _, o := range opsOf(base, m) {
			if o.on(f) != nil {
				return done, d
			}
			done++
		}
	}
	return done, d
}

// cutAnywhere: an Unpack is cut behind every number of steps; what is found are the members ahead, and of one more as much as its operations came to.
func cutAnywhere(t *testing.T, r *rand.Rand, image []byte, under string, list []api.Member, stride int) {
	t.Helper()
	base := strings.TrimRight(under, "/")
	trees, member := stages(t, image, base, list)
	seen := make([]int, len(trees))
	for steps := 0; ; steps += stride {
		d := load(t, image)
		f := mounts(t, d)
		d.Arm(steps)
		n, err := archive.Unpack(f, under, bytesOf(list))
		done, twin := answered(t, image, base, list, steps)
		if err == nil && (done != len(member) || n != len(list)) {
			t.Fatalf("P21.8: behind %d steps: Unpack = %d, nil", steps, n)
		}
		if err != nil && (n != member[done] || !tells(err, "unpack", base+"/"+list[n].Path, api.ErrDead)) {
			t.Fatalf("P21.8: behind %d steps: Unpack = %d, %v; %d operations answered", steps, n, err, done)
		}
		if !bytes.Equal(d.View(), twin.View()) || !reflect.DeepEqual(d.Doubts(), twin.Doubts()) {
			t.Fatalf("P21.8: behind %d steps the device has other bytes or doubts", steps)
		}
		for _, left := range crashes(r, d, 5) {
			g, e := fs.Mount(load(t, left), 1+r.Intn(64), []int{r.Intn(9), r.Intn(9)})
			if e != nil {
				t.Fatalf("P21.8: behind %d steps: Mount: %v", steps, e)
			}
			switch got := looks(t, g); {
			case reflect.DeepEqual(got, trees[done]):
				seen[done]++
			case err != nil && reflect.DeepEqual(got, trees[done+1]):
				seen[done+1]++
			default:
				t.Fatalf("P21.8: behind %d steps and %d operations there is\n%q\nwant\n%q", steps, done, got, trees[done])
			}
		}
		if err == nil {
			break
		}
	}
	for n, many := range seen {
		if many == 0 {
			t.Errorf("P21.8: the tree behind %d operations was never found", n)
		}
	}
}

// P21.8: power is lost amid an Unpack.
func TestP21_8Power(t *testing.T) {
	r := chance()
	d, _ := furnished(t)
	cutAnywhere(t, r, d.View(), "/", []api.Member{
		dir("a"), file("a/f", 1200, piece(0, page("x")), piece(512, page("y"))), link("a/l", "a/f"), file("a.b", 5, piece(0, "bytes")), file("empty", 0), link("g", "a/f"), file("holes", 262144), dir("z"),
	}, 1)
	cutAnywhere(t, r, d.View(), "/d/e//", example(), 1)
	empty, _ := fresh(t, small)
	cutAnywhere(t, r, empty.View(), "/", example(), 1)
	for range 5 {
		roomy, _ := fresh(t, middling)
		cutAnywhere(t, r, roomy.View(), "/", drawnGood(r, 7, 2), 3)
	}
}

package ship

import (
	"reflect"
	"testing"

	"furrow/api"
)

// A range over the steps may be left behind any of them: the iterator tells no more then, and can be ranged over again.
func TestWayLeftEarly(t *testing.T) {
	from := []api.Member{{Kind: api.KindDir, Path: "a"}, {Kind: api.KindFile, Path: "b"}, {Kind: api.MemberLink, Path: "c", Link: "b"}}
	to := []api.Member{{Kind: api.KindFile, Path: "a", Size: 600, Pieces: []api.Piece{{Off: 512, Data: "x" + string(make([]byte, 87))}}}, {Kind: api.KindDir, Path: "b"}}
	steps := way(from, to)
	var all []api.Step
	for s := range steps {
		all = append(all, s)
	}
	if len(all) != 6 {
		t.Fatalf("%d steps: %v", len(all), all)
	}
	for many := 1; many <= len(all); many++ {
		var some []api.Step
		for s := range steps {
			if some = append(some, s); len(some) == many {
				break
			}
		}
		if !reflect.DeepEqual(some, all[:many]) {
			t.Errorf("the first %d steps are %v", many, some)
		}
	}
}

package arena_test

import (
	"testing"

	"lychgate/api"
	"lychgate/arena"
)

func wantNoNode(t *testing.T, a *arena.Arena, f int) {
	t.Helper()
	if n, e := a.Node(f); n.Level != 0 || len(n.Kids) != 0 || e != api.ErrArg {
		t.Errorf("Node(%d): %v, error %d; want ErrArg and nothing", f, n, e)
	}
}

func TestTellsOfRefs(t *testing.T) {
	a := newArena(t, 8, 2, 1, 3)
	wantMake(t, a, 2, 2, 1, 0, 1)
	wantMake(t, a, 3, 0, 0, 2)
	wantWords(t, a, &words{[]int{2, 1, 3}, 8, []api.Node{{Level: 2, Kids: []int{1, 0, 1}}, {Level: 0, Kids: []int{0, 2}}}})
	for _, f := range []int{0, 1} {
		wantNoNode(t, a, f)
		if !a.Has(f) || a.Level(f) != 3 {
			t.Errorf("Has, Level of %d: %v, %d", f, a.Has(f), a.Level(f))
		}
	}
	for _, f := range append(farNumbers(), 4, 5) {
		wantNoNode(t, a, f)
		if a.Has(f) || a.Level(f) != 3 {
			t.Errorf("Has, Level of %d: %v, %d", f, a.Has(f), a.Level(f))
		}
	}
}

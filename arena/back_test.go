package arena_test

import (
	"testing"

	"lychgate/api"
	"lychgate/arena"
)

func wantBack(t *testing.T, a *arena.Arena, n int) {
	t.Helper()
	ahead := allNodes(t, a)
	if e := a.Back(n); e != api.OK {
		t.Fatalf("Back(%d) of %d: error %d", n, len(ahead), e)
	}
	wantNodes(t, a, ahead[:n]...)
}

func wantNoBack(t *testing.T, a *arena.Arena, n int) {
	t.Helper()
	ahead := allNodes(t, a)
	if e := a.Back(n); e != api.ErrArg {
		t.Errorf("Back(%d) of %d: error %d; want ErrArg", n, len(ahead), e)
	}
	wantNodes(t, a, ahead...)
}

// threeNodes are all that there is room for.
func threeNodes(t *testing.T) *arena.Arena {
	a := newArena(t, 3, 2, 2)
	wantMake(t, a, 2, 1, 0, 1)
	wantMake(t, a, 3, 1, 1, 0)
	wantMake(t, a, 4, 0, 2, 3)
	return a
}

func TestBackRefuses(t *testing.T) {
	a := threeNodes(t)
	for _, n := range append(farNumbers(), 4, 5) {
		wantNoBack(t, a, n)
	}
	wantMake(t, a, 4, 0, 2, 3)
	wantBack(t, a, 2)
	wantNoBack(t, a, 3)
	wantBack(t, a, 0)
	wantNoBack(t, a, 1)
	wantNoBack(t, newArena(t, 3, 2), 1)
}

func TestBackToAll(t *testing.T) {
	a := threeNodes(t)
	wantBack(t, a, 3)
	wantMake(t, a, 3, 1, 1, 0)
	wantMake(t, a, 4, 0, 2, 3)
	wantRefused(t, a, api.ErrNodeLimit, 0, 3, 2)
	wantBack(t, newArena(t, 0, 2), 0)
}

func TestBackGivesNumbersAnew(t *testing.T) {
	a := threeNodes(t)
	wantBack(t, a, 1)
	// What was 3 and what was 4 is over: as kids, too.
	wantRefused(t, a, api.ErrArg, 0, 2, 3)
	wantMake(t, a, 2, 1, 0, 1)
	wantMake(t, a, 3, 0, 2, 1)
	wantMake(t, a, 4, 1, 1, 0)
	wantRefused(t, a, api.ErrArg, 0, 2, 3)
	wantRefused(t, a, api.ErrNodeLimit, 0, 2, 4)
	wantMake(t, a, 3, 0, 2, 1)
}

// A number given anew may be a kid in the place of the old one: those are not the same nodes.
func TestBackForgetsThatANumberLedThere(t *testing.T) {
	a := threeNodes(t)
	wantBack(t, a, 0)
	wantMake(t, a, 2, 1, 1, 0)
	wantMake(t, a, 3, 1, 0, 1)
	wantMake(t, a, 4, 0, 2, 3)
	wantNodes(t, a, api.Node{Level: 1, Kids: []int{1, 0}}, api.Node{Level: 1, Kids: []int{0, 1}}, api.Node{Level: 0, Kids: []int{2, 3}})
}

func TestBackMakesRoom(t *testing.T) {
	a := threeNodes(t)
	for range 100 {
		wantRefused(t, a, api.ErrNodeLimit, 0, 3, 2)
		wantBack(t, a, 2)
		wantMake(t, a, 4, 0, 3, 2)
		wantRefused(t, a, api.ErrNodeLimit, 0, 2, 3)
		wantBack(t, a, 2)
		wantMake(t, a, 4, 0, 2, 3)
	}
}

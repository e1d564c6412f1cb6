package order_test

import (
	"slices"
	"testing"

	"lychgate/api"
	"lychgate/arena"
)

// What is wrong is told ahead of what there is no room for, whatever else is wrong.
func TestRefusesRoots(t *testing.T) {
	w, f := pairs()
	a := arenaOf(t, w)
	for _, bad := range append(farNumbers(), 11, 12) {
		for _, roots := range [][]int{{bad}, {f, bad}, {bad, f}, {0, 1, bad, 0}, {bad, bad}} {
			for _, most := range []int{0, 9, 8192, -1, 8193} {
				for _, by := range [][]int{{0, 1, 2, 3}, {3, 1, 0, 2}, {0, 1}, nil} {
					wantNotRebuilt(t, a, api.ErrArg, roots, by, most)
				}
				wantNoBest(t, a, roots, most)
			}
		}
	}
	wantWords(t, a, w, 9)
}

func TestRefusesRootsThatAreOver(t *testing.T) {
	w, f := pairs()
	a := arenaOf(t, w)
	if e := a.Back(5); e != api.OK {
		t.Fatal(e)
	}
	for over := 7; over <= f; over++ {
		wantNotRebuilt(t, a, api.ErrArg, []int{over}, []int{0, 1, 2, 3}, 100)
		wantNoBest(t, a, []int{over}, 100)
	}
	w.nodes = w.nodes[:5]
	wantRebuilt(t, w, []int{6}, []int{3, 2, 1, 0}, 100)
}

func TestRefusesOrders(t *testing.T) {
	w, f := pairs()
	a := arenaOf(t, w)
	bad := [][]int{nil, {}, {0}, {3}, {0, 1, 2}, {1, 2, 3}, {0, 1, 2, 3, 4}, {0, 1, 2, 3, 3}, {0, 1, 2, 3, 0, 1, 2, 3}, upTo(12), upTo(13),
		{0, 0, 0, 0}, {0, 0, 1, 2}, {3, 2, 1, 3}, {1, 2, 3, 4}, {4, 1, 2, 3}, {0, 1, 2, 4}, {0, 1, 4, 4}}
	for _, n := range append(farNumbers(), 4, 5, 12, 256, 1<<32+3) {
		for place := range 4 {
			by := upTo(4)
			by[place] = n
			bad = append(bad, by, slices.Insert(upTo(4), place, n))
		}
	}
	for _, by := range bad {
		for _, roots := range [][]int{{f}, {0}, {1, 0}, nil} {
			for _, most := range []int{0, 8, 9, 8192, -1, 8193} {
				wantNotRebuilt(t, a, api.ErrArg, roots, by, most)
			}
		}
	}
	wantWords(t, a, w, 9)
}

func TestRefusesOrdersOfOneAndOfTwelve(t *testing.T) {
	a := newArena(t, 10, 3)
	f := mustMake(t, a, 0, 0, 1, 0)
	for _, by := range [][]int{nil, {1}, {-1}, {0, 0}, {0, 1}} {
		wantNotRebuilt(t, a, api.ErrArg, []int{f}, by, 10)
	}
	rebuild(t, a, []int{f}, []int{0}, 1)
	wantNotRebuilt(t, a, api.ErrNodeLimit, []int{f}, []int{0}, 0)

	a = newArena(t, 10, slices.Repeat([]int{2}, 12)...)
	f = mustMake(t, a, 11, 0, 1)
	for _, by := range [][]int{upTo(11), upTo(13), append(upTo(11), 10), append(upTo(11), 12)} {
		wantNotRebuilt(t, a, api.ErrArg, []int{f}, by, 10)
	}
	rebuild(t, a, []int{f}, reversed(12), 1)
}

func TestRefusesMost(t *testing.T) {
	w, f := pairs()
	a := arenaOf(t, w)
	for _, most := range append(farNumbers(), 8193, 1<<32+9) {
		for _, roots := range [][]int{{f}, {0}, nil} {
			wantNotRebuilt(t, a, api.ErrArg, roots, []int{0, 1, 2, 3}, most)
			wantNotRebuilt(t, a, api.ErrArg, roots, []int{0, 2, 1, 3}, most)
			wantNoBest(t, a, roots, most)
		}
	}
	for _, most := range []int{6, 8191, 8192} {
		rebuild(t, a, []int{f}, []int{0, 2, 1, 3}, most)
	}
	rebuild(t, a, nil, []int{0, 2, 1, 3}, 0)
}

func TestRefusesNoArena(t *testing.T) {
	for _, roots := range [][]int{nil, {0}, {1}, {2}} {
		for _, by := range [][]int{nil, {0}, {0, 1}} {
			for _, most := range []int{0, 9, -1, 8193} {
				wantNotRebuilt(t, nil, api.ErrArg, roots, by, most)
			}
		}
		wantNoBest(t, nil, roots, 9)
		wantNoBest(t, nil, roots, -1)
	}
	// One that New did not give has no levels; it is none of what the calls gave, but nothing panics.
	wantNotRebuilt(t, &arena.Arena{}, api.ErrArg, []int{0}, nil, 9)
	wantBest(t, &arena.Arena{}, []int{0}, 9)
}

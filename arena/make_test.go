package arena_test

import (
	"math/rand"
	"testing"

	"lychgate/api"
)

func TestExamples(t *testing.T) {
	a := newArena(t, 8, 2, 3)
	wantMake(t, a, 2, 1, 0, 1, 1)
	wantMake(t, a, 2, 1, 0, 1, 1)
	wantMake(t, a, 1, 1, 1, 1, 1)
	wantMake(t, a, 3, 0, 2, 0)
	wantRefused(t, a, api.ErrArg, 1, 3, 0, 0)
	wantRefused(t, a, api.ErrArg, 0, 2)
	wantRefused(t, a, api.ErrArg, 2, 0, 1)
	wantWords(t, a, &words{[]int{2, 3}, 8, []api.Node{{Level: 1, Kids: []int{0, 1, 1}}, {Level: 0, Kids: []int{2, 0}}}})
	wantBack(t, a, 1)
	if a.Has(3) {
		t.Error("3 is over")
	}
	wantMake(t, a, 3, 0, 2, 1)
	wantNoBack(t, a, 5)
	for _, f := range []int{1, 4} {
		wantNoNode(t, a, f)
	}
	wantMake(t, newArena(t, 0, 1), 1, 0, 1)
	wantRefused(t, newArena(t, 0, 2), api.ErrNodeLimit, 0, 0, 1)
}

func TestMakeRefusesLevels(t *testing.T) {
	a := newArena(t, 8, 2, 2)
	for _, level := range append(farNumbers(), 2, 3, 12, 255, 256, 257) {
		wantRefused(t, a, api.ErrArg, level, 0, 1)
		wantRefused(t, a, api.ErrArg, level, 1, 1)
		wantRefused(t, a, api.ErrArg, level)
	}
}

func TestMakeRefusesHowManyKids(t *testing.T) {
	a := newArena(t, 8, 1, 2, 256)
	for level, size := range []int{1, 2, 256} {
		for _, n := range []int{0, 1, 2, 3, 255, 256, 257, 1000} {
			if n == size {
				continue
			}
			wantRefused(t, a, api.ErrArg, level, make([]int, n)...)
			kids := make([]int, n+1)
			kids[n] = 1
			if n+1 != size {
				wantRefused(t, a, api.ErrArg, level, kids...)
			}
		}
	}
}

func TestMakeRefusesKidsThatAreNotThere(t *testing.T) {
	a := newArena(t, 8, 3, 3)
	wantMake(t, a, 2, 1, 0, 1, 0)
	for _, f := range append(farNumbers(), 3, 4) {
		for level := range 2 {
			wantRefused(t, a, api.ErrArg, level, f, 0, 0)
			wantRefused(t, a, api.ErrArg, level, 0, f, 1)
			wantRefused(t, a, api.ErrArg, level, 1, 0, f)
			wantRefused(t, a, api.ErrArg, level, f, f, f)
		}
	}
}

func TestMakeRefusesKidsThatAreNotAbove(t *testing.T) {
	a := newArena(t, 8, 2, 2, 2)
	wantMake(t, a, 2, 2, 0, 1)
	wantMake(t, a, 3, 1, 2, 1)
	wantMake(t, a, 4, 0, 3, 2)
	for level, fs := range [][]int{{4}, {4, 3}, {4, 3, 2}} {
		for _, f := range fs {
			wantRefused(t, a, api.ErrArg, level, f, 0)
			wantRefused(t, a, api.ErrArg, level, 1, f)
			// Not even where the kids are the same.
			wantRefused(t, a, api.ErrArg, level, f, f)
		}
	}
	// A level may be passed over.
	wantMake(t, a, 5, 0, 2, 1)
}

func TestMakeOfSameKids(t *testing.T) {
	a := newArena(t, 1, 2, 1, 3)
	wantMake(t, a, 2, 2, 1, 0, 0)
	for f := range 3 {
		wantMake(t, a, f, 0, f, f)
		wantMake(t, a, f, 1, f)
	}
	wantMake(t, a, 0, 2, 0, 0, 0)
	wantMake(t, a, 1, 2, 1, 1, 1)
	if a.Len() != 1 {
		t.Errorf("Len: %d", a.Len())
	}
	// Just one of many is another one.
	b := newArena(t, 600, 256)
	for at := range 256 {
		kids := make([]int, 256)
		kids[at] = 1
		wantMake(t, b, at+2, 0, kids...)
	}
}

func TestMakeHoldsLevelsApart(t *testing.T) {
	a := newArena(t, 20, 2, 2, 2, 2, 2, 2, 2, 2, 2, 2, 2, 2)
	for level := range 12 {
		wantMake(t, a, level+2, level, 0, 1)
	}
	for level := range 12 {
		wantMake(t, a, level+2, level, 0, 1)
	}
}

// With refs that need more than a byte, kids whose bytes stand otherwise are others.
func TestMakeHoldsFarRefsApart(t *testing.T) {
	a := newArena(t, 8192, 2, 2, 256)
	for i := range 1024 {
		kids := make([]int, 256)
		for bit := range 10 {
			kids[bit] = i >> bit & 1
		}
		kids[255] = 1
		wantMake(t, a, i+2, 2, kids...)
	}
	next := 1026
	for _, k := range [][]int{{0, 258}, {256, 2}, {258, 0}, {2, 256}, {1, 258}, {257, 2}, {514, 0}, {0, 514}, {2, 514}, {514, 2}, {258, 514}} {
		wantMake(t, a, next, 1, k...)
		wantMake(t, a, next+1, 0, k...)
		next += 2
	}
	for _, f := range []int{258, 514, 1025} {
		wantMake(t, a, f, 0, f, f)
	}
}

func TestMakeWithoutRoom(t *testing.T) {
	for most := range 5 {
		a := newArena(t, most, 256)
		kids := make([]int, 256)
		for i := range most {
			kids[i] = 1
			wantMake(t, a, i+2, 0, kids...)
		}
		kids[most] = 1
		wantRefused(t, a, api.ErrNodeLimit, 0, kids...)
		wantRefused(t, a, api.ErrNodeLimit, 0, kids...)
		// What is wrong is told ahead of it, and what needs no room is answered.
		wantRefused(t, a, api.ErrArg, 0, kids[:255]...)
		wantRefused(t, a, api.ErrArg, 1, kids...)
		wantMake(t, a, 0, 0, make([]int, 256)...)
		clear(kids)
		for i := range most {
			kids[i] = 1
			wantMake(t, a, i+2, 0, kids...)
		}
	}
}

func TestMakeAsManyAsMayBe(t *testing.T) {
	a := newArena(t, 8192, 256, 256)
	kids := func(i int) []int {
		out := make([]int, 256)
		for bit := range 14 {
			out[255-bit] = i >> bit & 1
		}
		return out
	}
	for i := range 8192 {
		wantMake(t, a, i+2, 1, kids(i+1)...)
	}
	if f, e := a.Make(1, kids(8193)); f != 0 || e != api.ErrNodeLimit || a.Len() != 8192 {
		t.Errorf("one more: %d, error %d; Len: %d", f, e, a.Len())
	}
	if !a.Has(8193) || a.Has(8194) || a.Level(8193) != 1 || a.Level(8194) != 2 {
		t.Error("the last one")
	}
	wantBack(t, a, 8191)
	same := kids(0)
	for i := range same {
		same[i] = 8192
	}
	wantMake(t, a, 8192, 0, same...)
	same[9] = 8191
	wantMake(t, a, 8193, 0, same...)
	wantMake(t, a, 8193, 0, same...)
	for i := range 8191 {
		wantMake(t, a, i+2, 1, kids(i+1)...)
	}
}

func TestWordsAtRandom(t *testing.T) {
	r := rand.New(rand.NewSource(1))
	for range 300 {
		a, w := randomArena(t, r, 0)
		for range 60 {
			randomStep(t, r, a, w)
			wantWords(t, a, w)
		}
	}
}

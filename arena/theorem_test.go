package arena_test

import (
	"math/rand"
	"slices"
	"testing"

	"lychgate/api"
	"lychgate/arena"
)

// wantApart: no two nodes are the same, none has one kid alone, and all lead to refs ahead of them, of higher levels.
func wantApart(t *testing.T, a *arena.Arena) {
	t.Helper()
	l := allNodes(t, a)
	for i, n := range l {
		if slices.ContainsFunc(l[:i], func(m api.Node) bool { return sameNode(m, n) }) {
			t.Fatalf("%v: %d is there twice", l, i+2)
		}
		if slices.Min(n.Kids) == slices.Max(n.Kids) {
			t.Fatalf("%v: %d has one kid alone", l, i+2)
		}
		for _, f := range n.Kids {
			if f < 0 || f >= i+2 || f >= 2 && l[f-2].Level <= n.Level {
				t.Fatalf("%v: %d leads to %d", l, i+2, f)
			}
		}
	}
}

// saysOf is what a ref says of all points, by rising classes.
func saysOf(t *testing.T, a *arena.Arena, f int) string {
	t.Helper()
	sizes := a.Sizes()
	point, out := make([]int, len(sizes)), ""
	for {
		g := f
		for g > 1 {
			n, e := a.Node(g)
			if e != api.OK {
				t.Fatalf("Node(%d): error %d", g, e)
			}
			g = n.Kids[point[n.Level]]
		}
		out += string(rune('0' + g))
		at := len(point) - 1
		for at >= 0 && point[at] == sizes[at]-1 {
			point[at] = 0
			at--
		}
		if at < 0 {
			return out
		}
		point[at]++
	}
}

// wantUnlike: different refs are different functions.
func wantUnlike(t *testing.T, a *arena.Arena) {
	t.Helper()
	met := map[string]int{}
	for f := range a.Len() + 2 {
		s := saysOf(t, a, f)
		if g, is := met[s]; is {
			t.Fatalf("%v: %d and %d both say %s", allNodes(t, a), g, f, s)
		}
		met[s] = f
	}
}

func TestTheorem(t *testing.T) {
	r := rand.New(rand.NewSource(2))
	nodes := 0
	for range 300 {
		a, _ := randomArena(t, r, 80)
		wantApart(t, a)
		wantUnlike(t, a)
		nodes += a.Len()
	}
	if nodes < 1000 {
		t.Errorf("%d nodes alone", nodes)
	}
}

// All functions of two levels are made, from the last level on: there are as many refs as functions.
func TestAllFunctions(t *testing.T) {
	a := newArena(t, 8192, 2, 3)
	var last []int
	for i := range 8 {
		f, e := a.Make(1, []int{i & 1, i >> 1 & 1, i >> 2})
		if e != api.OK {
			t.Fatal(e)
		}
		last = append(last, f)
	}
	for _, f := range last {
		for _, g := range last {
			if _, e := a.Make(0, []int{f, g}); e != api.OK {
				t.Fatal(e)
			}
		}
	}
	if a.Len() != 64-2 {
		t.Errorf("Len: %d", a.Len())
	}
	wantApart(t, a)
	wantUnlike(t, a)
}

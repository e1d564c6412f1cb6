package dd_test

import (
	"math/rand"
	"slices"
	"testing"

	"lychgate/api"
	"lychgate/arena"
	"lychgate/dd"
)

func wantPath(t *testing.T, a *arena.Arena, f int, want ...int) {
	t.Helper()
	if l, is, e := dd.Path(a, f); !slices.Equal(l, want) || !is || e != api.OK {
		t.Fatalf("Path(%d): %v, %v, error %d; want %v", f, l, is, e, want)
	}
}

func wantNoPath(t *testing.T, a *arena.Arena, f int) {
	t.Helper()
	if l, is, e := dd.Path(a, f); len(l) != 0 || is || e != api.OK {
		t.Fatalf("Path(%d): %v, %v, error %d; want none", f, l, is, e)
	}
}

func wantEval(t *testing.T, a *arena.Arena, want bool, f int, point ...int) {
	t.Helper()
	if is, e := dd.Eval(a, f, point); is != want || e != api.OK {
		t.Fatalf("Eval(%d, %v): %v, error %d; want %v", f, point, is, e, want)
	}
}

func wantNoEval(t *testing.T, a *arena.Arena, f int, point ...int) {
	t.Helper()
	if is, e := dd.Eval(a, f, point); is || e != api.ErrArg {
		t.Errorf("Eval(%d, %v): %v, error %d; want ErrArg", f, point, is, e)
	}
}

func wantOrder(t *testing.T, a *arena.Arena, want []int, roots ...int) {
	t.Helper()
	if l, e := dd.Nodes(a, roots); !slices.Equal(l, want) || e != api.OK {
		t.Fatalf("Nodes(%v): %v, error %d; want %v", roots, l, e, want)
	}
}

func wantNoOrder(t *testing.T, a *arena.Arena, roots ...int) {
	t.Helper()
	if l, e := dd.Nodes(a, roots); len(l) != 0 || e != api.ErrArg {
		t.Errorf("Nodes(%v): %v, error %d; want ErrArg", roots, l, e)
	}
}

// order is post-order by DOC.md's words.
func (w *words) order(roots []int) []int {
	var out []int
	for _, f := range roots {
		if f < 2 || slices.Contains(out, f) {
			continue
		}
		for _, g := range append(w.order(w.nodes[f-2].Kids), f) {
			if !slices.Contains(out, g) {
				out = append(out, g)
			}
		}
	}
	return out
}

func TestTellsAtRandom(t *testing.T) {
	r := rand.New(rand.NewSource(3))
	for range 300 {
		w := randomWords(r, 3)
		a := arenaOf(t, w)
		for f := range a.Len() + 2 {
			var first []int
			for _, p := range w.points() {
				is := w.says(f)(p)
				wantEval(t, a, is, f, p...)
				if is && first == nil {
					first = p
				}
			}
			if first == nil {
				wantNoPath(t, a, f)
			} else {
				wantPath(t, a, f, first...)
			}
			wantOrder(t, a, w.order([]int{f}), f)
		}
		for range 20 {
			roots := make([]int, r.Intn(6))
			for i := range roots {
				roots[i] = r.Intn(a.Len() + 2)
			}
			wantOrder(t, a, w.order(roots), roots...)
		}
		wantNodes(t, a, w.nodes)
	}
}

func TestEvalRefuses(t *testing.T) {
	a := exampleOfSix(t)
	for _, bad := range append(farNumbers(), 8, 9) {
		wantNoEval(t, a, bad, 0, 0)
	}
	for f := range 8 {
		for _, p := range [][]int{nil, {0}, {1}, {0, 0, 0}, {1, 2, 0}, {2, 0}, {0, 3}, {2, 3}} {
			wantNoEval(t, a, f, p...)
		}
		for _, bad := range farNumbers() {
			wantNoEval(t, a, f, bad, 0)
			wantNoEval(t, a, f, 1, bad)
		}
	}
	wantEval(t, a, true, 1, 1, 2)
	wantEval(t, a, false, 0, 1, 2)
}

func TestPathRefuses(t *testing.T) {
	a := exampleOfSix(t)
	for _, bad := range append(farNumbers(), 8, 9) {
		if l, is, e := dd.Path(a, bad); len(l) != 0 || is || e != api.ErrArg {
			t.Errorf("Path(%d): %v, %v, error %d; want ErrArg", bad, l, is, e)
		}
	}
}

func TestNodesRefuses(t *testing.T) {
	a := exampleOfSix(t)
	for _, bad := range append(farNumbers(), 8, 9) {
		wantNoOrder(t, a, bad)
		wantNoOrder(t, a, bad, 7)
		wantNoOrder(t, a, 7, bad)
		wantNoOrder(t, a, 2, 1, bad, 0, 4)
	}
}

func TestNodesOfRoots(t *testing.T) {
	a := exampleOfSix(t)
	wantOrder(t, a, nil)
	wantOrder(t, a, nil, 0)
	wantOrder(t, a, nil, 1, 0, 1)
	wantOrder(t, a, []int{2}, 2, 2, 0, 2)
	// Not by their numbers, but as they end.
	wantOrder(t, a, []int{6, 2, 7}, 7)
	wantOrder(t, a, []int{6, 2, 7, 4}, 7, 4)
	wantOrder(t, a, []int{2, 4, 6, 7}, 4, 7)
	wantOrder(t, a, []int{3, 2, 5, 6, 7, 4}, 3, 5, 7, 2, 4)
	if e := a.Back(1); e != api.OK {
		t.Fatal(e)
	}
	wantOrder(t, a, []int{2}, 2)
	wantNoOrder(t, a, 2, 3)
}

func TestPathFindsTheLeastClasses(t *testing.T) {
	a := newArena(t, 8192, 1, 256, 2, 256)
	kids := make([]int, 256)
	kids[255] = 1
	f, e := a.Make(3, kids)
	wantRef(t, f, e, 2)
	wantPath(t, a, 2, 0, 0, 0, 255)
	kids[254], kids[255] = 2, 1
	g, e := a.Make(1, kids)
	wantRef(t, g, e, 3)
	// The class 255 of the level 1 would lead to a less class of the level 3; but the level 1 is ahead.
	wantPath(t, a, 3, 0, 254, 0, 255)
	wantPath(t, a, 1, 0, 0, 0, 0)
	wantNoPath(t, a, 0)
	wantEval(t, a, true, 3, 0, 255, 1, 0)
	wantEval(t, a, false, 3, 0, 254, 1, 254)
}

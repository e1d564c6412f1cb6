package order_test

import (
	"math/rand"
	"slices"
	"testing"

	"lychgate/api"
	"lychgate/arena"
	"lychgate/dd"
)

// pairs has the root of the chapter's examples: true where the levels 0 and 2 have one class, and 1 and 3 too.
func pairs() (*words, int) {
	w := &words{sizes: []int{2, 2, 2, 2}}
	f := w.from(nil, func(p []int) bool { return p[0] == p[2] && p[1] == p[3] })
	return w, f
}

func levelsOf(l []api.Node) []int {
	out := make([]int, 4)
	for _, n := range l {
		out[n.Level]++
	}
	return out
}

func TestExamples(t *testing.T) {
	w, f := pairs()
	a := arenaOf(t, w)
	b, l := rebuild(t, a, []int{f}, []int{0, 1, 2, 3}, 9)
	if got := levelsOf(allNodes(t, b)); !slices.Equal(got, []int{1, 2, 4, 2}) || !slices.Equal(l, []int{10}) {
		t.Errorf("%v: %v nodes", l, got)
	}
	b, l = rebuild(t, a, []int{f}, []int{0, 2, 1, 3}, 6)
	if b.Len() != 6 || !slices.Equal(l, []int{7}) || b.Level(7) != 0 {
		t.Errorf("%v: %d nodes, level %d", l, b.Len(), b.Level(7))
	}
	wantNotRebuilt(t, a, api.ErrNodeLimit, []int{f}, []int{0, 2, 1, 3}, 5)
	wantBest(t, a, []int{f}, 100, 0, 2, 1, 3)
	wantRebuilt(t, w, []int{1, 0, 1}, []int{3, 2, 1, 0}, 8192)
	for _, by := range [][]int{{0, 1, 2}, {0, 0, 1, 2}} {
		wantNotRebuilt(t, a, api.ErrArg, []int{f}, by, 100)
	}
	wantNotRebuilt(t, a, api.ErrArg, []int{f}, []int{0, 1, 2, 3}, 8193)
	wantWords(t, a, w, 9)
}

// Nodes stand in the post-order of the roots: what a root of an earlier place has is not made again.
func TestRebuildByPostOrder(t *testing.T) {
	a := newArena(t, 8, 3, 2)
	f := mustMake(t, a, 1, 0, 1)
	g := mustMake(t, a, 0, f, 0, 1)
	for _, c := range []struct {
		roots, now []int
		nodes      []api.Node
	}{
		{[]int{g, f, g}, []int{4, 5, 4}, []api.Node{{Level: 1, Kids: []int{0, 0, 1}}, {Level: 1, Kids: []int{1, 0, 1}}, {Level: 0, Kids: []int{2, 3}}, {Level: 0, Kids: []int{0, 1}}}},
		{[]int{f, 1, g}, []int{2, 1, 5}, []api.Node{{Level: 0, Kids: []int{0, 1}}, {Level: 1, Kids: []int{0, 0, 1}}, {Level: 1, Kids: []int{1, 0, 1}}, {Level: 0, Kids: []int{3, 4}}}},
	} {
		b, l := rebuild(t, a, c.roots, []int{1, 0}, 10)
		if !slices.Equal(l, c.now) {
			t.Errorf("%v: %v; want %v", c.roots, l, c.now)
		}
		wantWords(t, b, &words{[]int{2, 3}, c.nodes}, 10)
	}
}

func TestRebuildOfFalseAndTrue(t *testing.T) {
	for _, sizes := range [][]int{{1}, {2}, {256}, {1, 1, 1}, {3, 1, 2}, {256, 2, 256, 2, 1}} {
		w := &words{sizes: sizes}
		for _, by := range allOrders(len(sizes)) {
			for _, roots := range [][]int{nil, {}, {0}, {1}, {0, 1}, {1, 0, 1}, {1, 1}} {
				for _, most := range []int{0, 1, 8192} {
					wantRebuiltAsEnds(t, w, roots, by, most)
				}
			}
		}
	}
}

// wantRebuiltAsEnds goes through no points, for there are too many.
func wantRebuiltAsEnds(t *testing.T, w *words, roots, by []int, most int) {
	t.Helper()
	b, l := rebuild(t, arenaOf(t, w), roots, by, most)
	if !slices.Equal(l, roots) {
		t.Fatalf("Rebuild(%v, %v): %v", roots, by, l)
	}
	want := &words{}
	for _, level := range by {
		want.sizes = append(want.sizes, w.sizes[level])
	}
	wantWords(t, b, want, most)
}

func TestRebuildOfNoRoots(t *testing.T) {
	w, _ := pairs()
	for _, by := range allOrders(4) {
		wantRebuilt(t, w, nil, by, 0)
		wantRebuilt(t, w, []int{}, by, 7)
	}
}

func TestRebuildOfTheSameRoots(t *testing.T) {
	w, f := pairs()
	for _, by := range allOrders(4) {
		for _, roots := range [][]int{{f, f}, {f, 0, f, 1, f}, {f, 4, 4, f}, {2, f, 2, f}} {
			wantRebuilt(t, w, roots, by, 100)
		}
	}
}

// All functions of two levels, each alone and all at once.
func TestRebuildOfAllFunctions(t *testing.T) {
	w := &words{sizes: []int{2, 3}}
	var all []int
	for table := range 64 {
		all = append(all, w.from(nil, func(p []int) bool { return table>>(3*p[0]+p[1])&1 == 1 }))
	}
	for _, by := range allOrders(2) {
		for _, f := range all {
			wantRebuilt(t, w, []int{f}, by, 8192)
		}
		wantRebuilt(t, w, all, by, 8192)
	}
}

func TestRebuildByAllOrders(t *testing.T) {
	r := rand.New(rand.NewSource(1))
	for range 40 {
		w := randomWords(r, 4, 3)
		roots := randomRoots(r, w)
		for _, by := range allOrders(len(w.sizes)) {
			wantRebuilt(t, w, roots, by, 8192)
		}
	}
}

func TestRebuildAtRandom(t *testing.T) {
	r := rand.New(rand.NewSource(2))
	fewer, more := 0, 0
	for range 4000 {
		w := randomWords(r, 6, 2)
		roots, by := randomRoots(r, w), r.Perm(len(w.sizes))
		wantRebuilt(t, w, roots, by, 8192)
		ahead, _ := w.rebuilt(roots, upTo(len(by)))
		behind, _ := w.rebuilt(roots, by)
		if len(behind.nodes) < len(ahead.nodes) {
			fewer++
		}
		if len(behind.nodes) > len(ahead.nodes) {
			more++
		}
	}
	if fewer < 100 || more < 100 {
		t.Errorf("%d times fewer nodes, %d times more", fewer, more)
	}
}

// Runs of classes that lead to the same, of unlike lengths, at all levels.
func TestRebuildOfWideLevels(t *testing.T) {
	r := rand.New(rand.NewSource(3))
	for range 60 {
		w := &words{sizes: []int{1 + r.Intn(12), 1 + r.Intn(12), 1 + r.Intn(12)}}
		cuts := []int{r.Intn(12), r.Intn(12), r.Intn(12), r.Intn(30)}
		f := w.from(nil, func(p []int) bool {
			return (p[0] < cuts[0]) != (p[1] < cuts[1]) && p[2] != cuts[2] || p[0]+p[1]+p[2] == cuts[3]
		})
		g := w.from(nil, func(p []int) bool { return p[0] < p[1] || p[1]%3 == p[2]%2 })
		for _, by := range allOrders(3) {
			wantRebuilt(t, w, []int{f, g}, by, 8192)
		}
	}
}

// Just as many nodes as there are, and each number below that.
func TestRebuildJustEnough(t *testing.T) {
	r := rand.New(rand.NewSource(4))
	for range 300 {
		w := randomWords(r, 5, 2)
		roots, by := randomRoots(r, w), r.Perm(len(w.sizes))
		want, _ := w.rebuilt(roots, by)
		wantRebuilt(t, w, roots, by, len(want.nodes))
		a := arenaOf(t, w)
		for most := range len(want.nodes) {
			wantNotRebuilt(t, a, api.ErrNodeLimit, roots, by, most)
		}
		wantWords(t, a, w, len(w.nodes))
	}
}

// manySets has so many sets of the classes of the level 1, as roots, and one root that parts each of the first two of them by the level 0.
func manySets(t *testing.T, n int) (*arena.Arena, []int) {
	t.Helper()
	a := newArena(t, api.MaxNodes, 2, 256)
	in := make([]bool, 256)
	var roots []int
	for i := range n {
		for bit := range 14 {
			// The first two are each other's Not.
			in[255-bit] = (i/2+1)>>bit&1 == 1 != (i%2 == 1)
		}
		for rest := range 256 - 14 {
			in[rest] = i%2 == 1
		}
		f, e := dd.Set(a, 1, in)
		if e != api.OK {
			t.Fatal(e)
		}
		roots = append(roots, f)
	}
	if a.Len() != n {
		t.Fatalf("%d sets; want %d", a.Len(), n)
	}
	return a, append(roots, mustMake(t, a, 0, roots[0], roots[1]))
}

// In the order 1, 0 the last root leads to both sets of the level 0: there are two nodes more.
func TestRebuildAtTheFarEnd(t *testing.T) {
	a, roots := manySets(t, 8189)
	for most, want := range map[int]api.Errno{8189: api.ErrNodeLimit, 8190: api.OK, 8191: api.OK, 8192: api.OK} {
		if want != api.OK {
			wantNotRebuilt(t, a, want, roots, []int{0, 1}, most)
			continue
		}
		if b, l := rebuild(t, a, roots, []int{0, 1}, most); b.Len() != 8190 || !slices.Equal(l, upTo(8192)[2:]) {
			t.Errorf("%d: %d nodes", most, b.Len())
		}
	}
	b, l := rebuild(t, a, roots, []int{1, 0}, 8192)
	if b.Len() != 8192 || l[0] != 2 || l[8188] != 8190 || l[8189] != 8193 || b.Level(8193) != 0 || b.Level(8192) != 1 {
		t.Errorf("%d nodes, the last root is %d", b.Len(), l[8189])
	}
	wantNotRebuilt(t, a, api.ErrNodeLimit, roots, []int{1, 0}, 8191)
	wantBest(t, a, roots, 8192, 0, 1)

	a, roots = manySets(t, 8190)
	rebuild(t, a, roots, []int{0, 1}, 8191)
	wantNotRebuilt(t, a, api.ErrNodeLimit, roots, []int{1, 0}, 8192)
	rebuild(t, a, roots[:8190], []int{1, 0}, 8190)
	wantBest(t, a, roots, 8192, 0, 1)
	wantBest(t, a, roots, 8190, 0, 1)
}

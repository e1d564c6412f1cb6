package dd_test

import (
	"math/rand"
	"slices"
	"testing"

	"lychgate/api"
	"lychgate/arena"
	"lychgate/dd"
)

// example has f, 2, and g, 3, of the chapter's examples.
func example(t *testing.T, most int) *arena.Arena {
	t.Helper()
	a := newArena(t, most, 2, 3)
	f, e := dd.Set(a, 1, []bool{false, true, true})
	wantRef(t, f, e, 2)
	g, e := dd.Set(a, 0, []bool{true, false})
	wantRef(t, g, e, 3)
	wantNodes(t, a, []api.Node{{Level: 1, Kids: []int{0, 1, 1}}, {Level: 0, Kids: []int{1, 0}}})
	return a
}

// exampleOfSix has all nodes of the chapter's examples, 2 to 7.
func exampleOfSix(t *testing.T) *arena.Arena {
	t.Helper()
	a := example(t, 100)
	f, e := dd.And(a, 2, 3)
	wantRef(t, f, e, 4)
	f, e = dd.Or(a, 2, 3)
	wantRef(t, f, e, 5)
	f, e = dd.Xor(a, 2, 3)
	wantRef(t, f, e, 7)
	return a
}

func TestExamples(t *testing.T) {
	a := exampleOfSix(t)
	nodes := []api.Node{{Level: 1, Kids: []int{0, 1, 1}}, {Level: 0, Kids: []int{1, 0}}, {Level: 0, Kids: []int{2, 0}},
		{Level: 0, Kids: []int{1, 2}}, {Level: 1, Kids: []int{1, 0, 0}}, {Level: 0, Kids: []int{6, 2}}}
	wantNodes(t, a, nodes)
	f, e := dd.Not(a, 2)
	wantRef(t, f, e, 6)
	for _, c := range [][4]int{{4, 0, 0, 2}, {4, 0, 1, 0}, {4, 1, 0, 0}, {4, 1, 1, 3}} {
		f, e = dd.Restrict(a, c[0], c[1], c[2])
		wantRef(t, f, e, c[3])
	}
	wantError(t, a, api.ErrArg, func() (int, api.Errno) { return dd.Restrict(a, 4, 2, 0) })
	wantPath(t, a, 4, 0, 1)
	wantPath(t, a, 3, 0, 0)
	wantNoPath(t, a, 0)
	wantEval(t, a, true, 4, 0, 2)
	wantNoEval(t, a, 4, 0)
	wantOrder(t, a, []int{2, 4, 6, 7}, 4, 7)
	wantNodes(t, a, nodes)
}

func TestExampleWithoutRoom(t *testing.T) {
	a := example(t, 2)
	wantError(t, a, api.ErrNodeLimit, func() (int, api.Errno) { return dd.And(a, 2, 3) })
	f, e := dd.And(a, 2, 2)
	wantRef(t, f, e, 2)
}

// Wherever there is no room for a node, what is wrong is told ahead of it.
func wantRefused(t *testing.T, w *words, call func(a *arena.Arena) (int, api.Errno)) {
	t.Helper()
	for _, most := range []int{len(w.nodes), api.MaxNodes} {
		a := arenaOf(t, &words{w.sizes, most, w.nodes})
		wantError(t, a, api.ErrArg, func() (int, api.Errno) { return call(a) })
	}
}

func TestJoinsRefuseRefs(t *testing.T) {
	w := wordsOf(t, example(t, 100))
	for _, bad := range append(farNumbers(), 4, 5) {
		wantRefused(t, w, func(a *arena.Arena) (int, api.Errno) { return dd.Not(a, bad) })
		wantRefused(t, w, func(a *arena.Arena) (int, api.Errno) { return dd.Restrict(a, bad, 0, 0) })
		wantRefused(t, w, func(a *arena.Arena) (int, api.Errno) { return dd.Restrict(a, bad, 1, 2) })
		joins := []func(*arena.Arena, int, int) (int, api.Errno){dd.And, dd.Or, dd.Xor}
		for _, join := range joins {
			// Not even where the other one says all, or where both are the same.
			for _, f := range []int{0, 1, 2, 3, bad} {
				wantRefused(t, w, func(a *arena.Arena) (int, api.Errno) { return join(a, f, bad) })
				wantRefused(t, w, func(a *arena.Arena) (int, api.Errno) { return join(a, bad, f) })
			}
		}
	}
}

func TestJoinsRefuseWhatIsOver(t *testing.T) {
	a := exampleOfSix(t)
	if e := a.Back(4); e != api.OK {
		t.Fatal(e)
	}
	for _, over := range []int{6, 7} {
		wantError(t, a, api.ErrArg, func() (int, api.Errno) { return dd.Not(a, over) })
		wantError(t, a, api.ErrArg, func() (int, api.Errno) { return dd.Or(a, 1, over) })
		wantError(t, a, api.ErrArg, func() (int, api.Errno) { return dd.Restrict(a, over, 0, 0) })
	}
	// The numbers are given anew, and stand for something else.
	f, e := dd.Set(a, 1, []bool{false, true, false})
	wantRef(t, f, e, 6)
	f, e = dd.Xor(a, 2, 3)
	wantRef(t, f, e, 8)
	f, e = dd.Not(a, 2)
	wantRef(t, f, e, 7)
}

func TestSetRefuses(t *testing.T) {
	w := &words{sizes: []int{1, 2, 256}, most: 100}
	for level, size := range w.sizes {
		for _, n := range []int{0, 1, 2, 3, 255, 256, 257, 100000} {
			in := make([]bool, n)
			for i := range in {
				in[i] = i%2 == 0
			}
			if n != size {
				wantRefused(t, w, func(a *arena.Arena) (int, api.Errno) { return dd.Set(a, level, in) })
			}
			for _, bad := range append(farNumbers(), 3, 4, 12, 256) {
				wantRefused(t, w, func(a *arena.Arena) (int, api.Errno) { return dd.Set(a, bad, in) })
			}
		}
		wantRefused(t, w, func(a *arena.Arena) (int, api.Errno) { return dd.Set(a, level, nil) })
	}
}

func TestRestrictRefuses(t *testing.T) {
	a := newArena(t, 100, 1, 2, 256)
	kids := make([]int, 256)
	kids[255] = 1
	g, e := a.Make(2, kids)
	wantRef(t, g, e, 2)
	h, e := a.Make(1, []int{g, 1})
	wantRef(t, h, e, 3)
	w := wordsOf(t, a)
	for f := range 4 {
		for _, bad := range append(farNumbers(), 3, 4, 12, 256) {
			wantRefused(t, w, func(a *arena.Arena) (int, api.Errno) { return dd.Restrict(a, f, bad, 0) })
		}
		for level, size := range w.sizes {
			for _, bad := range append(farNumbers(), size, size+1, 257) {
				wantRefused(t, w, func(a *arena.Arena) (int, api.Errno) { return dd.Restrict(a, f, level, bad) })
			}
		}
	}
}

func TestSetOfAllSets(t *testing.T) {
	for _, sizes := range [][]int{{1}, {2}, {5}, {2, 3}, {1, 4, 2}} {
		w := &words{sizes: sizes, most: 100}
		a := arenaOf(t, w)
		for level, size := range sizes {
			for set := range 1 << size {
				in := make([]bool, size)
				for class := range in {
					in[class] = set>>class&1 == 1
				}
				wantOp(t, a, w, setOp(level, in...))
			}
		}
	}
}

func TestOfFalseAndTrueNeedsNoRoom(t *testing.T) {
	a := newArena(t, 0, 3, 1, 2)
	in := []bool{true, true, true}
	f, e := dd.Set(a, 0, in)
	wantRef(t, f, e, 1)
	f, e = dd.Set(a, 1, in[:1])
	wantRef(t, f, e, 1)
	f, e = dd.Set(a, 1, []bool{false})
	wantRef(t, f, e, 0)
	f, e = dd.Set(a, 2, []bool{false, false})
	wantRef(t, f, e, 0)
	bit := map[bool]int{true: 1}
	for f := range 2 {
		got, e := dd.Not(a, f)
		wantRef(t, got, e, 1-f)
		for level, size := range a.Sizes() {
			got, e = dd.Restrict(a, f, level, size-1)
			wantRef(t, got, e, f)
		}
		for g := range 2 {
			got, e = dd.And(a, f, g)
			wantRef(t, got, e, f*g)
			got, e = dd.Or(a, f, g)
			wantRef(t, got, e, bit[f+g > 0])
			got, e = dd.Xor(a, f, g)
			wantRef(t, got, e, bit[f != g])
		}
	}
}

// All pairs of all functions of two levels.
func TestAllFunctions(t *testing.T) {
	w := &words{sizes: []int{2, 3}, most: 8192}
	for table := range 64 {
		w.make(func(p []int) bool { return table>>(3*p[0]+p[1])&1 == 1 })
	}
	a := arenaOf(t, w)
	if a.Len() != 62 {
		t.Fatalf("%d nodes", a.Len())
	}
	for f := range 64 {
		wantOp(t, a, w, notOp(f))
		for level, size := range w.sizes {
			for class := range size {
				wantOp(t, a, w, restrictOp(f, level, class))
			}
		}
		for g := range 64 {
			wantOp(t, a, w, andOp(f, g))
			wantOp(t, a, w, orOp(f, g))
			wantOp(t, a, w, xorOp(f, g))
		}
	}
}

// Levels that a diagram passes over, and those that the other one alone asks.
func TestJoinsAcrossLevels(t *testing.T) {
	w := &words{sizes: []int{2, 3, 1, 2, 2}, most: 100}
	a := arenaOf(t, w)
	f, _ := wantOp(t, a, w, setOp(0, false, true))
	g, _ := wantOp(t, a, w, setOp(4, true, false))
	h, _ := wantOp(t, a, w, setOp(1, false, true, false))
	i, _ := wantOp(t, a, w, orOp(f, g))
	j, _ := wantOp(t, a, w, andOp(g, h))
	for _, o := range []op{xorOp(i, j), xorOp(j, i), andOp(i, j), orOp(j, i), restrictOp(i, 0, 0), restrictOp(i, 4, 0), restrictOp(i, 1, 2), restrictOp(i, 2, 0), restrictOp(j, 3, 1), restrictOp(j, 4, 1), notOp(i)} {
		wantOp(t, a, w, o)
	}
}

func TestWordsAtRandom(t *testing.T) {
	r := rand.New(rand.NewSource(1))
	limits, many := 0, 0
	for range 2000 {
		w := &words{sizes: randomSizes(r), most: r.Intn(50)}
		a := arenaOf(t, w)
		for range 40 {
			ahead := a.Len()
			if _, e := wantOp(t, a, w, randomOp(r, w)); e == api.ErrNodeLimit {
				limits++
			}
			if a.Len() > ahead+1 {
				many++
			}
			if r.Intn(20) == 0 {
				n := r.Intn(a.Len() + 1)
				a.Back(n)
				w.nodes = slices.Clone(w.nodes[:n])
			}
		}
	}
	if limits < 100 || many < 100 {
		t.Errorf("%d without room, %d of more than a node alone", limits, many)
	}
}

// Each operation in an arena with just as much room as it needs, and in one with a node less.
func TestJustAsMuchRoom(t *testing.T) {
	r := rand.New(rand.NewSource(2))
	made := map[string]int{}
	for range 6000 {
		w := randomWords(r, 2)
		ahead := slices.Clone(w.nodes)
		o := randomOp(r, w)
		want, _ := w.make(o.says(w))
		a := arenaOf(t, &words{w.sizes, len(w.nodes), ahead})
		f, e := o.call(a)
		wantRef(t, f, e, want)
		wantNodes(t, a, w.nodes)
		for most := len(ahead); most < len(w.nodes); most++ {
			made[o.name]++
			b := arenaOf(t, &words{w.sizes, most, ahead})
			wantError(t, b, api.ErrNodeLimit, func() (int, api.Errno) { return o.call(b) })
			// What was half made is forgotten: its numbers are given anew.
			if most > len(ahead) {
				f, e := b.Make(w.nodes[len(ahead)].Level, w.nodes[len(ahead)].Kids)
				wantRef(t, f, e, len(ahead)+2)
			}
		}
	}
	for _, name := range []string{"Set", "Not", "And", "Or", "Xor", "Restrict"} {
		if made[name] < 20 {
			t.Errorf("%s: %d without room alone", name, made[name])
		}
	}
}

// Of a result whose nodes the arena has in part, the others are made in their order.
func TestMakesNewNodesAlone(t *testing.T) {
	w := &words{sizes: []int{2, 2, 2}, most: 100}
	a := arenaOf(t, w)
	x, _ := wantOp(t, a, w, setOp(0, false, true))
	y, _ := wantOp(t, a, w, setOp(1, false, true))
	z, _ := wantOp(t, a, w, setOp(2, false, true))
	wantOp(t, a, w, notOp(z))
	yz, _ := wantOp(t, a, w, xorOp(y, z))
	ahead := a.Len()
	f, _ := wantOp(t, a, w, xorOp(x, yz))
	// The parities of y and z, and of not y and z: the second one is new, as the root is.
	if a.Len() != ahead+2 || f != ahead+3 {
		t.Errorf("%d: %d nodes, and then %d", f, ahead, a.Len())
	}
}

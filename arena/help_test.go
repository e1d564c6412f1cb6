package arena_test

import (
	"math"
	"math/rand"
	"slices"
	"testing"

	"lychgate/api"
	"lychgate/arena"
)

// words is an arena by the chapter's words: a list, in which nodes are looked for one by one.
type words struct {
	sizes []int
	most  int
	nodes []api.Node
}

func (w *words) has(f int) bool {
	return f == 0 || f == 1 || f >= 2 && f-2 < len(w.nodes)
}

func (w *words) level(f int) int {
	if f >= 2 && f-2 < len(w.nodes) {
		return w.nodes[f-2].Level
	}
	return len(w.sizes)
}

func (w *words) make(level int, kids []int) (int, api.Errno) {
	if level < 0 || level >= len(w.sizes) || len(kids) != w.sizes[level] {
		return 0, api.ErrArg
	}
	for _, f := range kids {
		if !w.has(f) || w.level(f) <= level {
			return 0, api.ErrArg
		}
	}
	if slices.Min(kids) == slices.Max(kids) {
		return kids[0], api.OK
	}
	for i, n := range w.nodes {
		if n.Level == level && slices.Equal(n.Kids, kids) {
			return i + 2, api.OK
		}
	}
	if len(w.nodes) == w.most {
		return 0, api.ErrNodeLimit
	}
	w.nodes = append(w.nodes, api.Node{Level: level, Kids: slices.Clone(kids)})
	return len(w.nodes) + 1, api.OK
}

func (w *words) back(n int) api.Errno {
	if n < 0 || n > len(w.nodes) {
		return api.ErrArg
	}
	w.nodes = slices.Clone(w.nodes[:n])
	return api.OK
}

// farNumbers are no refs, no levels and no sizes of anything; some would be, if they were cut to fewer bits.
func farNumbers() []int {
	return []int{-1, -2, -3, 8194, 1 << 16, 1<<16 + 1, 1<<16 + 2, 1<<17 + 2, 1 << 32, 1<<32 + 1, 1<<32 + 2, math.MinInt, math.MinInt + 1, math.MinInt + 2, math.MaxInt, math.MaxInt - 1}
}

func newArena(t *testing.T, most int, sizes ...int) *arena.Arena {
	t.Helper()
	a, e := arena.New(sizes, most)
	if a == nil || e != api.OK {
		t.Fatalf("New(%v, %d): error %d", sizes, most, e)
	}
	return a
}

func wantMake(t *testing.T, a *arena.Arena, want int, level int, kids ...int) {
	t.Helper()
	if f, e := a.Make(level, kids); f != want || e != api.OK {
		t.Fatalf("Make(%d, %v): %d, error %d; want %d", level, kids, f, e, want)
	}
}

// wantRefused looks also whether nothing is changed.
func wantRefused(t *testing.T, a *arena.Arena, want api.Errno, level int, kids ...int) {
	t.Helper()
	ahead := allNodes(t, a)
	if f, e := a.Make(level, kids); f != 0 || e != want {
		t.Errorf("Make(%d, %v): %d, error %d; want 0, error %d", level, kids, f, e, want)
	}
	wantNodes(t, a, ahead...)
}

func allNodes(t *testing.T, a *arena.Arena) []api.Node {
	t.Helper()
	var out []api.Node
	for i := range a.Len() {
		n, e := a.Node(i + 2)
		if e != api.OK {
			t.Fatalf("Node(%d): error %d", i+2, e)
		}
		out = append(out, n)
	}
	return out
}

func sameNode(m, n api.Node) bool {
	return m.Level == n.Level && slices.Equal(m.Kids, n.Kids)
}

func wantNodes(t *testing.T, a *arena.Arena, want ...api.Node) {
	t.Helper()
	if got := allNodes(t, a); !slices.EqualFunc(got, want, sameNode) {
		t.Fatalf("nodes: %v; want %v", got, want)
	}
}

// wantWords looks at all that an arena tells.
func wantWords(t *testing.T, a *arena.Arena, w *words) {
	t.Helper()
	if a.Len() != len(w.nodes) || a.Most() != w.most || !slices.Equal(a.Sizes(), w.sizes) {
		t.Fatalf("Len, Most, Sizes: %d, %d, %v; want %d, %d, %v", a.Len(), a.Most(), a.Sizes(), len(w.nodes), w.most, w.sizes)
	}
	wantNodes(t, a, w.nodes...)
	for f := -3; f < len(w.nodes)+6; f++ {
		if a.Has(f) != w.has(f) || a.Level(f) != w.level(f) {
			t.Fatalf("Has, Level of %d: %v, %d; want %v, %d", f, a.Has(f), a.Level(f), w.has(f), w.level(f))
		}
		if _, e := a.Node(f); (e == api.OK) != (f >= 2 && w.has(f)) {
			t.Fatalf("Node(%d): error %d", f, e)
		}
	}
}

func randomSizes(r *rand.Rand) []int {
	out := make([]int, 1+r.Intn(4))
	for i := range out {
		out[i] = 1 + r.Intn(3)
	}
	return out
}

// randomKids mostly may stand; now and then there is one too many, or one that may not be.
func randomKids(r *rand.Rand, w *words, level int) []int {
	var may []int
	for f := range len(w.nodes) + 2 {
		if w.level(f) > level {
			may = append(may, f)
		}
	}
	var out []int
	for range w.sizes[level] {
		out = append(out, may[r.Intn(len(may))])
	}
	switch r.Intn(20) {
	case 0:
		out = append(out, 0)
	case 1:
		out = out[1:]
	case 2:
		out[r.Intn(len(out))] = r.Intn(len(w.nodes)+6) - 2
	case 3:
		far := farNumbers()
		out[r.Intn(len(out))] = far[r.Intn(len(far))]
	}
	return out
}

// randomStep does the same to an arena and to its words.
func randomStep(t *testing.T, r *rand.Rand, a *arena.Arena, w *words) {
	t.Helper()
	if r.Intn(12) == 0 {
		n := r.Intn(len(w.nodes)+3) - 1
		if got, want := a.Back(n), w.back(n); got != want {
			t.Fatalf("Back(%d): error %d; want %d", n, got, want)
		}
		return
	}
	level := r.Intn(len(w.sizes))
	kids := randomKids(r, w, level)
	if r.Intn(20) == 0 {
		level = r.Intn(len(w.sizes)+3) - 1
	}
	f, e := a.Make(level, kids)
	if g, want := w.make(level, kids); f != g || e != want {
		t.Fatalf("Make(%d, %v) behind %v: %d, error %d; want %d, error %d", level, kids, w, f, e, g, want)
	}
}

// randomArena has gone through some steps; and its words.
func randomArena(t *testing.T, r *rand.Rand, steps int) (*arena.Arena, *words) {
	t.Helper()
	w := &words{sizes: randomSizes(r), most: r.Intn(30)}
	a := newArena(t, w.most, w.sizes...)
	for range steps {
		randomStep(t, r, a, w)
	}
	return a, w
}

package dd_test

import (
	"math"
	"math/rand"
	"slices"
	"testing"

	"lychgate/api"
	"lychgate/arena"
	"lychgate/dd"
)

// words is an arena by the chapters' words: what is made in it is a function of all points, level by level.
type words struct {
	sizes []int
	most  int
	nodes []api.Node
}

// function is what a ref says of a point.
type function func(point []int) bool

func (w *words) says(f int) function {
	return func(point []int) bool {
		g := f
		for g > 1 {
			n := w.nodes[g-2]
			g = n.Kids[point[n.Level]]
		}
		return g == 1
	}
}

// make is the one diagram of a function; nothing of it is left where there is no room.
func (w *words) make(says function) (int, api.Errno) {
	ahead := len(w.nodes)
	f := w.from(nil, says)
	if len(w.nodes) > w.most {
		w.nodes = w.nodes[:ahead]
		return 0, api.ErrNodeLimit
	}
	return f, api.OK
}

// from is the diagram of what is left of a function when the classes of the first levels are known.
func (w *words) from(first []int, says function) int {
	level := len(first)
	if level == len(w.sizes) {
		if says(first) {
			return 1
		}
		return 0
	}
	var kids []int
	for class := range w.sizes[level] {
		kids = append(kids, w.from(append(slices.Clone(first), class), says))
	}
	if slices.Min(kids) == slices.Max(kids) {
		return kids[0]
	}
	n := api.Node{Level: level, Kids: kids}
	at := slices.IndexFunc(w.nodes, func(m api.Node) bool { return sameNode(m, n) })
	if at < 0 {
		at = len(w.nodes)
		w.nodes = append(w.nodes, n)
	}
	return at + 2
}

// points are all of them, the first one first.
func (w *words) points() [][]int {
	out := [][]int{nil}
	for _, size := range w.sizes {
		var longer [][]int
		for _, p := range out {
			for class := range size {
				longer = append(longer, append(slices.Clone(p), class))
			}
		}
		out = longer
	}
	return out
}

func sameNode(m, n api.Node) bool {
	return m.Level == n.Level && slices.Equal(m.Kids, n.Kids)
}

// An op is a call that answers a ref, and what the words say of it.
type op struct {
	name string
	call func(a *arena.Arena) (int, api.Errno)
	says func(w *words) function
}

func setOp(level int, in ...bool) op {
	return op{"Set", func(a *arena.Arena) (int, api.Errno) { return dd.Set(a, level, in) }, func(w *words) function {
		return func(p []int) bool { return in[p[level]] }
	}}
}

func notOp(f int) op {
	return op{"Not", func(a *arena.Arena) (int, api.Errno) { return dd.Not(a, f) }, func(w *words) function {
		return func(p []int) bool { return !w.says(f)(p) }
	}}
}

func andOp(f, g int) op {
	return op{"And", func(a *arena.Arena) (int, api.Errno) { return dd.And(a, f, g) }, func(w *words) function {
		return func(p []int) bool { return w.says(f)(p) && w.says(g)(p) }
	}}
}

func orOp(f, g int) op {
	return op{"Or", func(a *arena.Arena) (int, api.Errno) { return dd.Or(a, f, g) }, func(w *words) function {
		return func(p []int) bool { return w.says(f)(p) || w.says(g)(p) }
	}}
}

func xorOp(f, g int) op {
	return op{"Xor", func(a *arena.Arena) (int, api.Errno) { return dd.Xor(a, f, g) }, func(w *words) function {
		return func(p []int) bool { return w.says(f)(p) != w.says(g)(p) }
	}}
}

func restrictOp(f, level, class int) op {
	return op{"Restrict", func(a *arena.Arena) (int, api.Errno) { return dd.Restrict(a, f, level, class) }, func(w *words) function {
		return func(p []int) bool {
			q := slices.Clone(p)
			q[level] = class
			return w.says(f)(q)
		}
	}}
}

func newArena(t *testing.T, most int, sizes ...int) *arena.Arena {
	t.Helper()
	a, e := arena.New(sizes, most)
	if a == nil || e != api.OK {
		t.Fatalf("New(%v, %d): error %d", sizes, most, e)
	}
	return a
}

// wordsOf are those of an arena as it stands.
func wordsOf(t *testing.T, a *arena.Arena) *words {
	t.Helper()
	return &words{a.Sizes(), a.Most(), allNodes(t, a)}
}

// arenaOf is an arena as some words have it.
func arenaOf(t *testing.T, w *words) *arena.Arena {
	t.Helper()
	a := newArena(t, w.most, w.sizes...)
	for i, n := range w.nodes {
		if f, e := a.Make(n.Level, n.Kids); f != i+2 || e != api.OK {
			t.Fatalf("Make(%d, %v): %d, error %d; want %d", n.Level, n.Kids, f, e, i+2)
		}
	}
	return a
}

func allNodes(t *testing.T, a *arena.Arena) []api.Node {
	t.Helper()
	var out []api.Node
	for i := range a.Len() {
		n, e := a.Node(i + 2)
		if e != api.OK {
			t.Fatalf("Node(%d): error %d", i+2, e)
		}
		out = append(out, n)
	}
	return out
}

func wantNodes(t *testing.T, a *arena.Arena, want []api.Node) {
	t.Helper()
	if got := allNodes(t, a); !slices.EqualFunc(got, want, sameNode) {
		t.Fatalf("nodes: %v; want %v", got, want)
	}
}

// wantOp does the same to an arena and to its words: the ref, the error and all nodes, as they stand.
func wantOp(t *testing.T, a *arena.Arena, w *words, o op) (int, api.Errno) {
	t.Helper()
	ahead := slices.Clone(w.nodes)
	f, e := o.call(a)
	if g, want := w.make(o.says(w)); f != g || e != want {
		t.Fatalf("%s behind %v: %d, error %d; want %d, error %d", o.name, ahead, f, e, g, want)
	}
	wantNodes(t, a, w.nodes)
	return f, e
}

func wantRef(t *testing.T, f int, e api.Errno, want int) {
	t.Helper()
	if f != want || e != api.OK {
		t.Fatalf("%d, error %d; want %d", f, e, want)
	}
}

// wantError looks also whether nothing is changed.
func wantError(t *testing.T, a *arena.Arena, want api.Errno, call func() (int, api.Errno)) {
	t.Helper()
	ahead := allNodes(t, a)
	if f, e := call(); f != 0 || e != want {
		t.Errorf("%d, error %d; want 0, error %d", f, e, want)
	}
	wantNodes(t, a, ahead)
}

// must is for calls that have to go well.
func must(t *testing.T, f int, e api.Errno) int {
	t.Helper()
	if e != api.OK {
		t.Fatalf("error %d", e)
	}
	return f
}

// farNumbers are no refs, levels or classes of anything; some would be, if they were cut to fewer bits.
func farNumbers() []int {
	return []int{-1, -2, -3, 8194, 1 << 16, 1<<16 + 1, 1<<16 + 2, 1<<17 + 2, 1 << 32, 1<<32 + 1, 1<<32 + 2, math.MinInt, math.MinInt + 1, math.MinInt + 2, math.MaxInt, math.MaxInt - 1}
}

func randomSizes(r *rand.Rand) []int {
	out := make([]int, 1+r.Intn(4))
	for i := range out {
		out[i] = 1 + r.Intn(3)
	}
	return out
}

func randomOp(r *rand.Rand, w *words) op {
	f, g, level := r.Intn(len(w.nodes)+2), r.Intn(len(w.nodes)+2), r.Intn(len(w.sizes))
	switch r.Intn(6) {
	case 0:
		in := make([]bool, w.sizes[level])
		for i := range in {
			in[i] = r.Intn(2) == 0
		}
		return setOp(level, in...)
	case 1:
		return notOp(f)
	case 2:
		return andOp(f, g)
	case 3:
		return orOp(f, g)
	case 4:
		return xorOp(f, g)
	}
	return restrictOp(f, level, r.Intn(w.sizes[level]))
}

// randomWords have diagrams of functions at random, and room.
func randomWords(r *rand.Rand, roots int) *words {
	w := &words{sizes: randomSizes(r), most: api.MaxNodes}
	for range roots {
		often := 1 + r.Intn(6)
		w.make(func([]int) bool { return r.Intn(often) == 0 })
	}
	return w
}

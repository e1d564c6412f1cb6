package order_test

import (
	"math"
	"math/rand"
	"slices"
	"testing"

	"lychgate/api"
	"lychgate/arena"
	"lychgate/order"
)

// words is an arena by the chapters' words: what is made in it is a function of all points, level by level.
type words struct {
	sizes []int
	nodes []api.Node
}

// function is what a ref says of a point.
type function func(point []int) bool

func (w *words) says(f int) function {
	return func(point []int) bool {
		g := f
		for g > 1 {
			n := w.nodes[g-2]
			g = n.Kids[point[n.Level]]
		}
		return g == 1
	}
}

// from is the diagram of what is left of a function when the classes of the first levels are known.
func (w *words) from(first []int, says function) int {
	level := len(first)
	if level == len(w.sizes) {
		if says(first) {
			return 1
		}
		return 0
	}
	var kids []int
	for class := range w.sizes[level] {
		kids = append(kids, w.from(append(slices.Clone(first), class), says))
	}
	if slices.Min(kids) == slices.Max(kids) {
		return kids[0]
	}
	n := api.Node{Level: level, Kids: kids}
	at := slices.IndexFunc(w.nodes, func(m api.Node) bool { return sameNode(m, n) })
	if at < 0 {
		at = len(w.nodes)
		w.nodes = append(w.nodes, n)
	}
	return at + 2
}

// rebuilt has what roots say in an order, and nothing else.
func (w *words) rebuilt(roots, by []int) (*words, []int) {
	out := &words{}
	for _, level := range by {
		out.sizes = append(out.sizes, w.sizes[level])
	}
	var now []int
	for _, f := range roots {
		now = append(now, out.from(nil, func(point []int) bool { return w.says(f)(backFrom(by, point)) }))
	}
	return out, now
}

// backFrom is the old point of one that is put into an order.
func backFrom(by, point []int) []int {
	out := make([]int, len(by))
	for i, level := range by {
		out[level] = point[i]
	}
	return out
}

// numbers are how many nodes roots have with a level put in at each place; what is above most is told as more than any other.
func (w *words) numbers(roots, by []int, level, most int) []int {
	stood := slices.Index(by, level)
	others := slices.Delete(slices.Clone(by), stood, stood+1)
	var out []int
	for place := range by {
		now, _ := w.rebuilt(roots, slices.Insert(slices.Clone(others), place, level))
		n := len(now.nodes)
		if n > most {
			n = math.MaxInt
		}
		out = append(out, n)
	}
	return out
}

// found tells what a search met with.
type found struct {
	by       []int
	moved    int  // levels that left their places
	tied     bool // the place was the first one of several
	stayed   bool // another place had as few nodes as that where a level stood
	overMany bool // between both places there was one above most
}

// best is O2's search, by its words.
func (w *words) best(roots []int, most int) found {
	out := found{by: upTo(len(w.sizes))}
	for level := range w.sizes {
		l := w.numbers(roots, out.by, level, most)
		stood, least := slices.Index(out.by, level), slices.Min(l)
		first := slices.Index(l, least)
		if least == l[stood] {
			out.stayed = out.stayed || first < stood
			continue
		}
		out.moved++
		out.tied = out.tied || slices.Contains(l[first+1:], least)
		out.overMany = out.overMany || slices.Contains(l[min(stood, first)+1:max(stood, first)], math.MaxInt)
		out.by = slices.Insert(slices.Delete(slices.Clone(out.by), stood, stood+1), first, level)
	}
	return out
}

func upTo(n int) []int {
	out := make([]int, n)
	for i := range out {
		out[i] = i
	}
	return out
}

func reversed(n int) []int {
	out := upTo(n)
	slices.Reverse(out)
	return out
}

// allOrders are those of n levels.
func allOrders(n int) [][]int {
	if n == 0 {
		return [][]int{nil}
	}
	var out [][]int
	for _, l := range allOrders(n - 1) {
		for place := range n {
			out = append(out, slices.Insert(slices.Clone(l), place, n-1))
		}
	}
	return out
}

func sameNode(m, n api.Node) bool {
	return m.Level == n.Level && slices.Equal(m.Kids, n.Kids)
}

func newArena(t *testing.T, most int, sizes ...int) *arena.Arena {
	t.Helper()
	a, e := arena.New(sizes, most)
	if a == nil || e != api.OK {
		t.Fatalf("New(%v, %d): error %d", sizes, most, e)
	}
	return a
}

func mustMake(t *testing.T, a *arena.Arena, level int, kids ...int) int {
	t.Helper()
	f, e := a.Make(level, kids)
	if e != api.OK {
		t.Fatalf("Make(%d, %v): error %d", level, kids, e)
	}
	return f
}

// arenaOf is an arena as some words have it, without room for more.
func arenaOf(t *testing.T, w *words) *arena.Arena {
	t.Helper()
	a := newArena(t, len(w.nodes), w.sizes...)
	for _, n := range w.nodes {
		mustMake(t, a, n.Level, n.Kids...)
	}
	return a
}

func allNodes(t *testing.T, a *arena.Arena) []api.Node {
	t.Helper()
	var out []api.Node
	for i := range a.Len() {
		n, e := a.Node(i + 2)
		if e != api.OK {
			t.Fatalf("Node(%d): error %d", i+2, e)
		}
		out = append(out, n)
	}
	return out
}

// wantWords looks at all that an arena tells.
func wantWords(t *testing.T, a *arena.Arena, w *words, most int) {
	t.Helper()
	if got := allNodes(t, a); !slices.EqualFunc(got, w.nodes, sameNode) {
		t.Fatalf("nodes: %v; want %v", got, w.nodes)
	}
	if !slices.Equal(a.Sizes(), w.sizes) || a.Most() != most {
		t.Fatalf("sizes %v, at most %d; want %v, at most %d", a.Sizes(), a.Most(), w.sizes, most)
	}
}

// rebuild is for calls that have to go well.
func rebuild(t *testing.T, a *arena.Arena, roots, by []int, most int) (*arena.Arena, []int) {
	t.Helper()
	b, l, e := order.Rebuild(a, roots, by, most)
	if b == nil || len(l) != len(roots) || e != api.OK {
		t.Fatalf("Rebuild(%v, %v, %d): %v, error %d", roots, by, most, l, e)
	}
	return b, l
}

func best(t *testing.T, a *arena.Arena, roots []int, most int) []int {
	t.Helper()
	l, e := order.Best(a, roots, most)
	if e != api.OK {
		t.Fatalf("Best(%v, %d): error %d", roots, most, e)
	}
	return l
}

// wantRebuilt looks also whether nothing is changed in what is rebuilt.
func wantRebuilt(t *testing.T, w *words, roots, by []int, most int) {
	t.Helper()
	a := arenaOf(t, w)
	b, l := rebuild(t, a, roots, by, most)
	want, now := w.rebuilt(roots, by)
	if !slices.Equal(l, now) {
		t.Fatalf("Rebuild(%v, %v): %v; want %v", roots, by, l, now)
	}
	wantWords(t, b, want, most)
	wantWords(t, a, w, len(w.nodes))
}

func wantNotRebuilt(t *testing.T, a *arena.Arena, want api.Errno, roots, by []int, most int) {
	t.Helper()
	if b, l, e := order.Rebuild(a, roots, by, most); b != nil || len(l) != 0 || e != want {
		t.Errorf("Rebuild(%v, %v, %d): %v, %v, error %d; want error %d", roots, by, most, b, l, e, want)
	}
}

func wantBest(t *testing.T, a *arena.Arena, roots []int, most int, want ...int) {
	t.Helper()
	if l, e := order.Best(a, roots, most); !slices.Equal(l, want) || e != api.OK {
		t.Fatalf("Best(%v, %d): %v, error %d; want %v", roots, most, l, e, want)
	}
}

func wantNoBest(t *testing.T, a *arena.Arena, roots []int, most int) {
	t.Helper()
	if l, e := order.Best(a, roots, most); len(l) != 0 || e != api.ErrArg {
		t.Errorf("Best(%v, %d): %v, error %d; want ErrArg", roots, most, l, e)
	}
}

// farNumbers are no refs, levels or numbers of nodes; some would be, if they were cut to fewer bits.
func farNumbers() []int {
	return []int{-1, -2, -3, 8194, 1 << 16, 1<<16 + 1, 1<<16 + 2, 1<<17 + 2, 1 << 32, 1<<32 + 1, 1<<32 + 2, math.MinInt, math.MinInt + 1, math.MinInt + 2, math.MaxInt, math.MaxInt - 1}
}

func randomSizes(r *rand.Rand, levels int) []int {
	out := make([]int, max(1+r.Intn(levels), 1+r.Intn(levels)))
	for i := range out {
		out[i] = []int{1, 2, 2, 2, 2, 3, 3, 4}[r.Intn(8)]
	}
	return out
}

// randomFunction holds some pairs of levels against each other, so that orders in which these stand together are better than others.
func randomFunction(r *rand.Rand, sizes []int) function {
	type pair struct{ i, k, how, join int }
	pairs := make([]pair, 1+r.Intn(4))
	for at := range pairs {
		pairs[at] = pair{r.Intn(len(sizes)), r.Intn(len(sizes)), r.Intn(3), r.Intn(3)}
	}
	return func(point []int) bool {
		out := true
		for _, p := range pairs {
			i, k := point[p.i], point[p.k]
			is := []bool{i == k, i < k, (i+k)%2 == 0}[p.how]
			out = []bool{out && is, out && is, out != is}[p.join]
		}
		return out
	}
}

// randomWords have diagrams of functions at random.
func randomWords(r *rand.Rand, levels, roots int) *words {
	w := &words{sizes: randomSizes(r, levels)}
	for range roots {
		says := randomFunction(r, w.sizes)
		if r.Intn(3) == 0 {
			often := 1 + r.Intn(6)
			says = func([]int) bool { return r.Intn(often) == 0 }
		}
		w.from(nil, says)
	}
	return w
}

// randomRoots are some of what there is, now and then one twice.
func randomRoots(r *rand.Rand, w *words) []int {
	out := make([]int, r.Intn(5))
	for i := range out {
		// Late ones are of low levels, and have many nodes.
		out[i] = max(r.Intn(len(w.nodes)+2), r.Intn(len(w.nodes)+2))
	}
	return out
}

package pass_test

import (
	"fmt"
	"math"
	"math/rand"
	"slices"
	"testing"

	"lychgate/api"
	"lychgate/check"
	"lychgate/lower"
	"lychgate/pass"
)

// accepted is a source's policy.
func accepted(t *testing.T, s string) api.Policy {
	t.Helper()
	p, e, at := check.Accept(s)
	if e != api.OK {
		t.Fatalf("%s: error %d at %d", s, e, at)
	}
	return p
}

// program is what some sources are compiled into.
func program(t *testing.T, sources ...string) api.Program {
	t.Helper()
	var l []api.Policy
	for _, s := range sources {
		l = append(l, accepted(t, s))
	}
	p, e := lower.Compile(l, api.MaxNodes)
	if e != api.OK {
		t.Fatalf("%q: error %d", sources, e)
	}
	return p
}

// What follows is about diagrams by the chapters' words, by other means than the packages have: what a rule says stands in a table of all points, and its diagram is found by cutting that into pieces.

// table says of each point, the last level's class rising first, whether it is true there.
type table []bool

// words has the nodes that tables' diagrams have, in the order in which they are made.
type words struct {
	sizes []int
	nodes []api.Node
	refs  map[string]int
}

func newWords(sizes []int) *words { return &words{sizes: sizes, refs: map[string]int{}} }

func (w *words) points() int {
	n := 1
	for _, size := range w.sizes {
		n *= size
	}
	return n
}

// point is the n-th one.
func (w *words) point(n int) []int {
	out := make([]int, len(w.sizes))
	for level := len(out) - 1; level >= 0; level-- {
		out[level] = n % w.sizes[level]
		n /= w.sizes[level]
	}
	return out
}

// number is where a point stands.
func (w *words) number(point []int) int {
	n := 0
	for level, class := range point {
		n = n*w.sizes[level] + class
	}
	return n
}

// put is the diagram of a table.
func (w *words) put(s table) int { return w.from(0, s) }

func (w *words) from(level int, s table) int {
	if level == len(w.sizes) {
		return map[bool]int{false: 0, true: 1}[s[0]]
	}
	var kids []int
	for piece := range slices.Chunk(s, len(s)/w.sizes[level]) {
		kids = append(kids, w.from(level+1, piece))
	}
	if slices.Min(kids) == slices.Max(kids) {
		return kids[0]
	}
	key := fmt.Sprint(level, kids)
	if _, is := w.refs[key]; !is {
		w.refs[key] = len(w.nodes) + 2
		w.nodes = append(w.nodes, api.Node{Level: level, Kids: kids})
	}
	return w.refs[key]
}

// says is what a root says of a point, level by level.
func says(nodes []api.Node, f int, point []int) bool {
	for f > 1 {
		f = nodes[f-2].Kids[point[nodes[f-2].Level]]
	}
	return f == 1
}

// tables are what a program's rules say of all points, attribute by attribute.
func tables(p api.Program) (*words, []table) {
	plain := newWords(sizesBy(p.Space, upTo(len(p.Space))))
	var out []table
	for _, x := range p.Rules {
		s := make(table, plain.points())
		for n := range s {
			s[n] = says(p.Nodes, x.Root, picked(plain.point(n), p.Order))
		}
		out = append(out, s)
	}
	return plain, out
}

// turned is a program of the same rules in another order, by tables.
func turned(p api.Program, order []int) api.Program {
	plain, l := tables(p)
	return ofTables(p, order, plain, l)
}

// ofTables is a program with the space and the rules of p, that say what tables do, in an order.
func ofTables(p api.Program, order []int, plain *words, l []table) api.Program {
	q := api.Program{Space: p.Space, Order: order}
	w := newWords(sizesBy(p.Space, order))
	for i, x := range p.Rules {
		s := make(table, w.points())
		for n := range s {
			classes := make([]int, len(order))
			for level, class := range w.point(n) {
				classes[order[level]] = class
			}
			s[n] = l[i][plain.number(classes)]
		}
		x.Root = w.put(s)
		q.Rules = append(q.Rules, x)
	}
	q.Nodes = w.nodes
	return q
}

// wordsOrder is R1 by its words, and by those of layer 16's search: the answer, and how many levels have left their places.
func wordsOrder(p api.Program) (api.Program, int) {
	plain, l := tables(p)
	by, moved := upTo(len(p.Order)), 0
	number := func(by []int) int { return len(ofTables(p, picked(p.Order, by), plain, l).Nodes) }
	for level := range p.Order {
		stood := slices.Index(by, level)
		others := slices.Delete(slices.Clone(by), stood, stood+1)
		best, least := by, number(by)
		for place := range by {
			other := slices.Insert(slices.Clone(others), place, level)
			if n := number(other); n < least {
				best, least = other, n
			}
		}
		if !slices.Equal(best, by) {
			moved++
		}
		by = best
	}
	if q := ofTables(p, picked(p.Order, by), plain, l); len(q.Nodes) < len(p.Nodes) {
		return q, moved
	}
	return p, moved
}

// sizesBy are those of the levels.
func sizesBy(x []api.Attr, order []int) []int {
	var out []int
	for _, at := range order {
		out = append(out, x[at].Size)
	}
	return out
}

func upTo(n int) []int {
	out := make([]int, n)
	for i := range out {
		out[i] = i
	}
	return out
}

// picked are the elements at some places.
func picked(l, places []int) []int {
	var out []int
	for _, at := range places {
		out = append(out, l[at])
	}
	return out
}

// tell is all of a thing as text, whether its empty lists are nil or not.
func tell(x any) string { return fmt.Sprintf("%+v", x) }

// tellRules tells a program but for its space.
func tellRules(p api.Program) string {
	return tell([]any{sizesBy(p.Space, p.Order), p.Order, p.Nodes, p.Rules})
}

func wantProgram(t *testing.T, what string, got, want api.Program) {
	t.Helper()
	if tell(got) != tell(want) {
		t.Fatalf("%s: %s\nwant %s", what, tell(got), tell(want))
	}
}

func wantOrder(t *testing.T, p api.Program, most int, want api.Program) {
	t.Helper()
	q, e := pass.Order(p, most)
	if e != api.OK {
		t.Fatalf("Order of at most %d nodes: error %d; of %s", most, e, tellRules(p))
	}
	wantProgram(t, "Order", q, want)
}

func wantNoOrder(t *testing.T, p api.Program, most int, want api.Errno) {
	t.Helper()
	if q, e := pass.Order(p, most); tell(q) != tell(api.Program{}) || e != want {
		t.Fatalf("Order of at most %d nodes: %s, error %d; want error %d; of %s", most, tellRules(q), e, want, tellRules(p))
	}
}

func wantRun(t *testing.T, p api.Program, passes []int, most int, want api.Program) {
	t.Helper()
	q, e := pass.Run(p, passes, most)
	if e != api.OK {
		t.Fatalf("Run by %v, of at most %d nodes: error %d; of %s", passes, most, e, tellRules(p))
	}
	wantProgram(t, fmt.Sprint("Run by ", passes), q, want)
}

func wantNotRun(t *testing.T, p api.Program, passes []int, most int, want api.Errno) {
	t.Helper()
	if q, e := pass.Run(p, passes, most); tell(q) != tell(api.Program{}) || e != want {
		t.Fatalf("Run by %v, of at most %d nodes: %s, error %d; want error %d; of %s", passes, most, tellRules(q), e, want, tellRules(p))
	}
}

func mustRun(t *testing.T, p api.Program, passes ...int) api.Program {
	t.Helper()
	q, e := pass.Run(p, passes, api.MaxNodes)
	if e != api.OK || !lower.Right(q) {
		t.Fatalf("Run by %v: error %d, %s; of %s", passes, e, tellRules(q), tellRules(p))
	}
	return q
}

// farNumbers are none that anything here may have; some would be, if they were cut to fewer bits.
func farNumbers() []int {
	return []int{-1, -2, -8192, 8193, 8194, 1 << 16, 1<<16 + 1, 1<<16 + 1000, 1 << 32, 1<<32 + 1, 1<<32 + 4, 1<<32 + 1000, math.MinInt, math.MinInt + 1, math.MinInt + 1000, math.MaxInt, math.MaxInt32, math.MinInt32}
}

func pick[T any](r *rand.Rand, l ...T) T { return l[r.Intn(len(l))] }

// randomSpace is one of few points.
func randomSpace(t *testing.T, r *rand.Rand) []api.Attr {
	t.Helper()
	return program(t, pick(r,
		"",
		"allow a when port in {1} or port in {2};",
		"allow a when addr in {10.0.0.0/8} or addr in {11.0.0.0/8} or port in {80-90};",
		`allow a when addr in {10.0.0.0/8} or port in {80} or method in {GET} or path ~ "/a/*";`,
		`allow a when addr in {10.0.0.0/8} or port in {80} or method in {GET} or path ~ "/a/*" or path ~ "/b";`,
		`allow a when addr in {10.0.0.0/8} or port in {80} or method in {GET} or path ~ "/a/*" or has "k";`,
		`allow a when addr in {10.0.0.0/8} or port in {80} or method in {GET} or method in {PUT} or has "k";`,
		`allow a when addr in {10.0.0.0/8} or addr in {10.1.0.0/16} or path ~ "/a/**" or path ~ "/b" or method in {GET} or port in {81};`,
		`allow a when port in {80} or method in {GET} or has "k" or header "l" ~ "a*";`,
		`allow a when header "a" ~ "x*" or header "b" ~ "*y" or has "a" or method in {GET};`,
		`allow a when has "a" or has "b" or has "k" or has "l";`,
	)).Space
}

// randomGroups put some classes of an attribute into one.
func randomGroups(r *rand.Rand, size int) []int {
	few := 1 + r.Intn(size)
	out := make([]int, size)
	for class := range out {
		out[class] = r.Intn(few)
	}
	return out
}

// randomProgram is a right one of few points, in an order of its own. Rules often have to do with those ahead of them, and often hold groups of classes against each other, two attributes at a time: so there is something to do for each pass.
func randomProgram(t *testing.T, r *rand.Rand) api.Program {
	t.Helper()
	p := api.Program{Space: randomSpace(t, r)}
	plain := newWords(sizesBy(p.Space, upTo(len(p.Space))))
	var groups [][]int
	for _, size := range plain.sizes {
		groups = append(groups, pick(r, upTo(size), upTo(size), randomGroups(r, size)))
	}
	many := pick(r, 0, 1, 1, 2, 2, 3, 4, 5, 6)
	second := pick(r, many, many/2, r.Intn(many+1))
	var l []table
	for i := range many {
		rule := api.Ruled{Effect: pick(r, api.ItemAllow, api.ItemDeny), Name: fmt.Sprint("n", i)}
		if i >= second {
			rule.Policy = 1
		}
		p.Rules = append(p.Rules, rule)
		l = append(l, randomTable(r, plain, groups, l))
	}
	return ofTables(p, r.Perm(len(p.Space)), plain, l)
}

func randomTable(r *rand.Rand, w *words, groups [][]int, ahead []table) table {
	out := make(table, w.points())
	if kind := r.Intn(8); kind < 3 && len(ahead) > 0 {
		s, u := pick(r, ahead...), pick(r, ahead...)
		for n := range out {
			out[n] = []bool{s[n], s[n] || u[n], s[n] && !u[n]}[kind]
		}
		return out
	}
	often := pick(r, 0, 0, 0, 1, 3)
	pairs := make([][2]int, 1+r.Intn(3))
	for i := range pairs {
		pairs[i] = [2]int{r.Intn(len(groups)), r.Intn(len(groups))}
	}
	join := r.Intn(2)
	for n := range out {
		point := w.point(n)
		for i, x := range pairs {
			is := groups[x[0]][point[x[0]]] == groups[x[1]][point[x[1]]]
			out[n] = i == 0 && is || i > 0 && (out[n] != is || join == 1 && is)
		}
		out[n] = out[n] != (often > 0 && r.Intn(2+often) == 0)
	}
	return out
}

// randomPasses are at most so many.
func randomPasses(r *rand.Rand, many int) []int {
	var out []int
	for range r.Intn(many + 1) {
		out = append(out, 1+r.Intn(4))
	}
	return out
}

// copyOf has no memory in common with a program, but for its attributes' lists.
func copyOf(p api.Program) api.Program {
	p.Space, p.Order, p.Nodes, p.Rules = slices.Clone(p.Space), slices.Clone(p.Order), slices.Clone(p.Nodes), slices.Clone(p.Rules)
	for i, n := range p.Nodes {
		p.Nodes[i].Kids = slices.Clone(n.Kids)
	}
	return p
}

// inParallel runs a test with several seeds; all have ended behind it.
func inParallel(t *testing.T, run func(t *testing.T, r *rand.Rand)) {
	t.Run("seeds", func(t *testing.T) {
		for seed := range 6 {
			t.Run(fmt.Sprint(seed), func(t *testing.T) {
				t.Parallel()
				run(t, rand.New(rand.NewSource(int64(seed)+200)))
			})
		}
	})
}

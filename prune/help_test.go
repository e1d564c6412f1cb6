package prune_test

import (
	"fmt"
	"math"
	"math/rand"
	"slices"
	"strings"
	"testing"

	"lychgate/api"
	"lychgate/check"
	"lychgate/lower"
	"lychgate/prune"
)

// call is one of the package's two.
type call func(p api.Program, most int) (api.Program, api.Errno)

// calls are both, by their names.
func calls() map[string]call { return map[string]call{"Dead": prune.Dead, "Merge": prune.Merge} }

// program is what some sources are compiled into.
func program(t *testing.T, sources ...string) api.Program {
	t.Helper()
	var l []api.Policy
	for _, s := range sources {
		p, e, at := check.Accept(s)
		if e != api.OK {
			t.Fatalf("%s: error %d at %d", s, e, at)
		}
		l = append(l, p)
	}
	p, e := lower.Compile(l, api.MaxNodes)
	if e != api.OK {
		t.Fatalf("%q: error %d", sources, e)
	}
	return p
}

// What follows is about diagrams by the chapters' words, by other means than the packages have: what a rule says stands in a table of all points, and its diagram is found by cutting that into pieces.

// table says of each point, the last level's class rising first, whether it is true there.
type table []bool

// words has the nodes that tables' diagrams have, in the order in which they are made.
type words struct {
	sizes []int
	nodes []api.Node
	refs  map[string]int
}

func newWords(sizes []int) *words { return &words{sizes: sizes, refs: map[string]int{}} }

// wordsOf has a program's nodes.
func wordsOf(p api.Program) *words {
	w := newWords(sizesOf(p.Space, p.Order))
	for _, n := range p.Nodes {
		w.node(n.Level, n.Kids)
	}
	return w
}

func (w *words) points() int {
	n := 1
	for _, size := range w.sizes {
		n *= size
	}
	return n
}

// point is the n-th one.
func (w *words) point(n int) []int {
	out := make([]int, len(w.sizes))
	for level := len(out) - 1; level >= 0; level-- {
		out[level] = n % w.sizes[level]
		n /= w.sizes[level]
	}
	return out
}

func (w *words) none() table { return make(table, w.points()) }

// put is the diagram of a table.
func (w *words) put(s table) int { return w.from(0, s) }

func (w *words) from(level int, s table) int {
	if level == len(w.sizes) {
		return map[bool]int{false: 0, true: 1}[s[0]]
	}
	var kids []int
	for piece := range slices.Chunk(s, len(s)/w.sizes[level]) {
		kids = append(kids, w.from(level+1, piece))
	}
	if slices.Min(kids) == slices.Max(kids) {
		return kids[0]
	}
	return w.node(level, kids)
}

func (w *words) node(level int, kids []int) int {
	key := fmt.Sprint(level, kids)
	if _, is := w.refs[key]; !is {
		w.refs[key] = len(w.nodes) + 2
		w.nodes = append(w.nodes, api.Node{Level: level, Kids: kids})
	}
	return w.refs[key]
}

// says is the table of a ref.
func (w *words) says(f int) table {
	out := w.none()
	for n := range out {
		g, at := f, w.point(n)
		for g > 1 {
			g = w.nodes[g-2].Kids[at[w.nodes[g-2].Level]]
		}
		out[n] = g == 1
	}
	return out
}

func not(s table) table {
	out := slices.Clone(s)
	for n := range out {
		out[n] = !out[n]
	}
	return out
}

func both(s, u table) table {
	out := slices.Clone(s)
	for n := range out {
		out[n] = s[n] && u[n]
	}
	return out
}

func either(s, u table) table { return not(both(not(s), not(u))) }

func isNone(s table) bool { return !slices.Contains(s, true) }

// wordsClose is the program of rules whose roots are in some words: what they say is put anew, in their order.
func wordsClose(x []api.Attr, order []int, w *words, l []api.Ruled) api.Program {
	end := newWords(w.sizes)
	p := api.Program{Space: x, Order: order}
	for _, rule := range l {
		rule.Root = end.put(w.says(rule.Root))
		p.Rules = append(p.Rules, rule)
	}
	p.Nodes = end.nodes
	return p
}

// sizesOf are those of a program's levels.
func sizesOf(x []api.Attr, order []int) []int {
	var out []int
	for _, at := range order {
		out = append(out, x[at].Size)
	}
	return out
}

// ofClasses is a program over one attribute, the port, of three classes. Each text is a policy: its rules, of which + allows and - denies, their names, and the classes of which they are true (none: "_").
func ofClasses(t *testing.T, policies ...string) api.Program {
	t.Helper()
	x := program(t, "allow a when port in {1} or port in {2};").Space
	order := []int{0, 1, 2, 3}
	w := newWords(sizesOf(x, order))
	var l []api.Ruled
	for policy, s := range policies {
		for rule := range strings.SplitSeq(s, ", ") {
			if rule == "" {
				continue
			}
			name, classes, _ := strings.Cut(rule[1:], " ")
			says := table{strings.Contains(classes, "0"), strings.Contains(classes, "1"), strings.Contains(classes, "2")}
			effect := map[byte]int{'+': api.ItemAllow, '-': api.ItemDeny}[rule[0]]
			l = append(l, api.Ruled{Policy: policy, Effect: effect, Name: name, Root: w.put(says)})
		}
	}
	return wordsClose(x, order, w, l)
}

// tell is all of a thing as text, whether its empty lists are nil or not.
func tell(x any) string { return fmt.Sprintf("%+v", x) }

func wantProgram(t *testing.T, what string, got, want api.Program) {
	t.Helper()
	if tell(got) != tell(want) {
		t.Fatalf("%s: %s\nwant %s", what, tell(got), tell(want))
	}
}

func wantRefused(t *testing.T, what string, do call, p api.Program, most int, want api.Errno) {
	t.Helper()
	if q, e := do(p, most); tell(q) != tell(api.Program{}) || e != want {
		t.Fatalf("%s of at most %d nodes: %s, error %d; want error %d", what, most, tell(q), e, want)
	}
}

// wantRoom: with just so many nodes, and more, the answer is that program; with fewer there is no room.
func wantRoom(t *testing.T, what string, do call, p, want api.Program, made int) {
	t.Helper()
	for _, most := range []int{made, made + 1, api.MaxNodes} {
		q, e := do(p, most)
		if e != api.OK {
			t.Fatalf("%s of at most %d nodes: error %d, of %s", what, most, e, tell(p))
		}
		wantProgram(t, what, q, want)
	}
	// From one too few down to none or nearly so.
	for most := made - 1; most >= 0; most -= 1 + made/8 {
		wantRefused(t, what, do, p, most, api.ErrNodeLimit)
	}
}

// farNumbers are none that anything here may have; some would be, if they were cut to fewer bits.
func farNumbers() []int {
	return []int{-1, -2, -8192, 8193, 8194, 1 << 16, 1<<16 + 1000, 1 << 32, 1<<32 + 1000, math.MinInt, math.MinInt + 1000, math.MaxInt, math.MaxInt32, math.MinInt32}
}

func pick[T any](r *rand.Rand, l ...T) T { return l[r.Intn(len(l))] }

// randomSpace is one of few points.
func randomSpace(t *testing.T, r *rand.Rand) []api.Attr {
	t.Helper()
	return program(t, pick(r,
		"",
		"allow a when port in {1} or port in {2};",
		"allow a when addr in {10.0.0.0/8} or port in {80-90};",
		`allow a when port in {80} or method in {GET} or has "k";`,
		`allow a when port in {80} or method in {GET} or has "k" or header "l" ~ "a*";`,
		`allow a when port in {80} or port in {90} or method in {GET} or method in {PUT} or method in {A};`,
		`allow a when port in {80} or port in {85-443} or method in {GET} or method in {PUT} or has "k";`,
		`allow a when header "a" ~ "x*" or header "b" ~ "*y" or method in {GET};`,
		`allow a when addr in {10.0.0.0/8} or addr in {10.1.0.0/16} or path ~ "/a/**" or path ~ "/b";`,
	)).Space
}

// randomTable often has to do with those ahead of it.
func randomTable(r *rand.Rand, w *words, ahead []table) table {
	kind := r.Intn(30)
	switch {
	case kind == 0:
		return w.none()
	case kind == 1:
		return not(w.none())
	case kind < 4 && len(ahead) > 0:
		return pick(r, ahead...)
	case kind < 7 && len(ahead) > 0:
		return either(pick(r, ahead...), pick(r, ahead...))
	case kind < 10 && len(ahead) > 0:
		return both(pick(r, ahead...), not(pick(r, ahead...)))
	}
	out := w.none()
	often := 2 + r.Intn(len(out))
	for n := range out {
		out[n] = r.Intn(often) == 0
	}
	return out
}

// randomProgram is a right one of few points, in an order of its own.
func randomProgram(t *testing.T, r *rand.Rand) api.Program {
	t.Helper()
	x := randomSpace(t, r)
	order := r.Perm(len(x))
	w := newWords(sizesOf(x, order))
	many := r.Intn(12)
	second := pick(r, 0, many, many/2, r.Intn(many+1), r.Intn(many+1))
	effects := pick(r, []int{api.ItemAllow}, []int{api.ItemDeny}, []int{api.ItemAllow, api.ItemDeny}, []int{api.ItemAllow, api.ItemAllow, api.ItemDeny})
	var ahead []table
	var l []api.Ruled
	for i := range many {
		s := randomTable(r, w, ahead)
		ahead = append(ahead, s)
		l = append(l, api.Ruled{Effect: pick(r, effects...), Name: fmt.Sprint("n", i), Root: w.put(s)})
		if i >= second {
			l[i].Policy = 1
		}
	}
	return wordsClose(x, order, w, l)
}

// copyOf has no memory in common with a program, but for its attributes' lists.
func copyOf(p api.Program) api.Program {
	p.Space, p.Order, p.Nodes, p.Rules = slices.Clone(p.Space), slices.Clone(p.Order), slices.Clone(p.Nodes), slices.Clone(p.Rules)
	for i, n := range p.Nodes {
		p.Nodes[i].Kids = slices.Clone(n.Kids)
	}
	return p
}

// inParallel runs a test with several seeds.
func inParallel(t *testing.T, run func(t *testing.T, r *rand.Rand)) {
	for seed := range 6 {
		t.Run(fmt.Sprint(seed), func(t *testing.T) {
			t.Parallel()
			run(t, rand.New(rand.NewSource(int64(seed)+100)))
		})
	}
}

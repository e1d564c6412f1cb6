package fuse_test

import (
	"fmt"
	"math"
	"math/rand"
	"slices"
	"strings"
	"testing"

	"lychgate/api"
	"lychgate/check"
	"lychgate/dd"
	"lychgate/fuse"
	"lychgate/lower"
	"lychgate/space"
)

// program is what some sources are compiled into.
func program(t *testing.T, sources ...string) api.Program {
	t.Helper()
	var l []api.Policy
	for _, s := range sources {
		p, e, at := check.Accept(s)
		if e != api.OK {
			t.Fatalf("%s: error %d at %d", s, e, at)
		}
		l = append(l, p)
	}
	p, e := lower.Compile(l, api.MaxNodes)
	if e != api.OK {
		t.Fatalf("%q: error %d", sources, e)
	}
	return p
}

// What follows is about diagrams by the chapters' words, by other means than the packages have: what a rule says stands in a table of all points, and its diagram is found by cutting that into pieces.

// table says of each point, the last level's class rising first, whether it is true there.
type table []bool

// words has the nodes that tables' diagrams have, in the order in which they are made.
type words struct {
	sizes []int
	nodes []api.Node
	refs  map[string]int
}

func newWords(sizes []int) *words { return &words{sizes: sizes, refs: map[string]int{}} }

// wordsOf has a program's nodes.
func wordsOf(p api.Program) *words {
	w := newWords(sizesOf(p))
	for _, n := range p.Nodes {
		w.node(n.Level, n.Kids)
	}
	return w
}

func (w *words) points() int {
	n := 1
	for _, size := range w.sizes {
		n *= size
	}
	return n
}

// point is the n-th one.
func (w *words) point(n int) []int {
	out := make([]int, len(w.sizes))
	for level := len(out) - 1; level >= 0; level-- {
		out[level] = n % w.sizes[level]
		n /= w.sizes[level]
	}
	return out
}

// number is where a point stands.
func (w *words) number(point []int) int {
	n := 0
	for level, class := range point {
		n = n*w.sizes[level] + class
	}
	return n
}

// put is the diagram of a table.
func (w *words) put(s table) int { return w.from(0, s) }

func (w *words) from(level int, s table) int {
	if level == len(w.sizes) {
		return map[bool]int{false: 0, true: 1}[s[0]]
	}
	var kids []int
	for piece := range slices.Chunk(s, len(s)/w.sizes[level]) {
		kids = append(kids, w.from(level+1, piece))
	}
	if slices.Min(kids) == slices.Max(kids) {
		return kids[0]
	}
	return w.node(level, kids)
}

func (w *words) node(level int, kids []int) int {
	key := fmt.Sprint(level, kids)
	if _, is := w.refs[key]; !is {
		w.refs[key] = len(w.nodes) + 2
		w.nodes = append(w.nodes, api.Node{Level: level, Kids: kids})
	}
	return w.refs[key]
}

// says is the table of a ref.
func (w *words) says(f int) table {
	out := make(table, w.points())
	for n := range out {
		g, at := f, w.point(n)
		for g > 1 {
			g = w.nodes[g-2].Kids[at[w.nodes[g-2].Level]]
		}
		out[n] = g == 1
	}
	return out
}

// known is a table where a level's class is known.
func (w *words) known(s table, level, class int) table {
	out := make(table, len(s))
	for n := range out {
		at := w.point(n)
		at[level] = class
		out[n] = s[w.number(at)]
	}
	return out
}

// wordsAlike is F1 by its words: the answer, and how many nodes there are in the end.
func wordsAlike(p api.Program, attr int) ([]int, int) {
	w := wordsOf(p)
	level := slices.Index(p.Order, attr)
	var all []string // by classes: what all rules say
	var out []int
	for class := range p.Space[attr].Size {
		said := ""
		for _, x := range p.Rules {
			s := w.known(w.says(x.Root), level, class)
			w.put(s)
			said += fmt.Sprint(s)
		}
		all = append(all, said)
		out = append(out, slices.Index(all, said))
	}
	return out, len(w.nodes)
}

// wordsFuse is F2 by its words: the answer, and how many nodes are enough for each attribute.
func wordsFuse(t *testing.T, p api.Program) (api.Program, []int) {
	t.Helper()
	q := api.Program{Order: p.Order}
	made := make([]int, len(p.Space))
	stay := make([][]int, len(p.Space)) // by attributes: the least class of those that each new one is made of
	for attr, x := range p.Space {
		var classes []int
		classes, made[attr] = wordsAlike(p, attr)
		y, e := space.Fuse(x, classes)
		if e != api.OK {
			t.Fatalf("Fuse of the attribute %d by %v: error %d", attr, classes, e)
		}
		q.Space = append(q.Space, y)
		for class, least := range classes {
			if class == least {
				stay[attr] = append(stay[attr], class)
			}
		}
	}
	was, now := wordsOf(p), newWords(sizesOf(q))
	for _, rule := range p.Rules {
		old, s := was.says(rule.Root), make(table, now.points())
		for n := range s {
			at := now.point(n)
			for level, attr := range p.Order {
				at[level] = stay[attr][at[level]]
			}
			s[n] = old[was.number(at)]
		}
		rule.Root = now.put(s)
		q.Rules = append(q.Rules, rule)
	}
	q.Nodes = now.nodes
	return q, made
}

// layersAlike is F1 word for word by layer 15, for programs of too many points; the answer, and how many nodes there are in the end.
func layersAlike(t *testing.T, p api.Program, attr int) ([]int, int) {
	t.Helper()
	a, roots, e := lower.Open(p, api.MaxNodes)
	if e != api.OK {
		t.Fatalf("Open: error %d", e)
	}
	var all []string
	var out []int
	for class := range p.Space[attr].Size {
		said := ""
		for _, f := range roots {
			g, e := dd.Restrict(a, f, slices.Index(p.Order, attr), class)
			if e != api.OK {
				t.Fatalf("Restrict: error %d", e)
			}
			said += fmt.Sprint(g, " ")
		}
		all = append(all, said)
		out = append(out, slices.Index(all, said))
	}
	return out, a.Len()
}

// sizesOf are those of a program's levels.
func sizesOf(p api.Program) []int {
	var out []int
	for _, at := range p.Order {
		out = append(out, p.Space[at].Size)
	}
	return out
}

func upTo(n int) []int {
	out := make([]int, n)
	for i := range out {
		out[i] = i
	}
	return out
}

// ofTables is a program over two attributes of three classes each, the port and the method, by their places in an order. Each text is a policy: its rules, of which + allows and - denies, their names, and what they say: by the port's classes and, within, by the method's.
func ofTables(t *testing.T, order []int, policies ...string) api.Program {
	t.Helper()
	p := api.Program{Space: program(t, "allow a when port in {1} or port in {2} or method in {B} or method in {C};").Space, Order: order}
	w := newWords(sizesOf(p))
	for policy, s := range policies {
		for rule := range strings.SplitSeq(s, ", ") {
			if rule == "" {
				continue
			}
			name, rows, _ := strings.Cut(rule[1:], " ")
			says := make(table, w.points())
			for n := range says {
				at := w.point(n)
				row := strings.Split(rows, "/")[at[slices.Index(order, 1)]]
				says[n] = row[at[slices.Index(order, 2)]] == '1'
			}
			effect := map[byte]int{'+': api.ItemAllow, '-': api.ItemDeny}[rule[0]]
			p.Rules = append(p.Rules, api.Ruled{Policy: policy, Effect: effect, Name: name, Root: w.put(says)})
		}
	}
	p.Nodes = w.nodes
	if !lower.Right(p) {
		t.Fatalf("%q: not right", policies)
	}
	return p
}

// portFirst and methodFirst are orders of the levels.
func portFirst() []int { return []int{0, 1, 2, 3} }

func methodFirst() []int { return []int{2, 3, 1, 0} }

// tellShort is tell without the names of what there is.
func tellShort(x any) string { return fmt.Sprint(x) }

// tellRules tells a program but for its space.
func tellRules(p api.Program) string { return tell([]any{sizesOf(p), p.Order, p.Nodes, p.Rules}) }

// tell is all of a thing as text, whether its empty lists are nil or not.
func tell(x any) string { return fmt.Sprintf("%+v", x) }

func wantProgram(t *testing.T, what string, got, want api.Program) {
	t.Helper()
	if tell(got) != tell(want) {
		t.Fatalf("%s: %s\nwant %s", what, tell(got), tell(want))
	}
}

func wantNotAlike(t *testing.T, p api.Program, attr, most int, want api.Errno) {
	t.Helper()
	if l, e := fuse.Alike(p, attr, most); len(l) != 0 || e != want {
		t.Fatalf("Alike of %d, of at most %d nodes: %v, error %d; want error %d; of %s", attr, most, l, e, want, tellRules(p))
	}
}

func wantNotFused(t *testing.T, p api.Program, most int, want api.Errno) {
	t.Helper()
	if q, e := fuse.Fuse(p, most); tell(q) != tell(api.Program{}) || e != want {
		t.Fatalf("Fuse of at most %d nodes: %s, error %d; want error %d; of %s", most, tellRules(q), e, want, tellRules(p))
	}
}

// enough are some numbers of nodes, from just enough on.
func enough(made int) []int {
	return slices.Compact([]int{made, min(made+1, api.MaxNodes), api.MaxNodes})
}

// tooFew are some numbers of nodes, from one too few down to none or nearly so.
func tooFew(made int) []int {
	var out []int
	for most := made - 1; most >= 0; most -= 1 + made/3 {
		out = append(out, most)
	}
	return out
}

// wantAlike: with just so many nodes, and more, the answer is that; with fewer there is no room.
func wantAlike(t *testing.T, p api.Program, attr int, want []int, made int) {
	t.Helper()
	for _, most := range enough(made) {
		if l, e := fuse.Alike(p, attr, most); !slices.Equal(l, want) || e != api.OK {
			t.Fatalf("Alike of %d, of at most %d nodes: %v, error %d; want %v; of %s", attr, most, l, e, want, tellRules(p))
		}
	}
	for _, most := range tooFew(made) {
		wantNotAlike(t, p, attr, most, api.ErrNodeLimit)
	}
}

// wantFused is likewise of Fuse.
func wantFused(t *testing.T, p, want api.Program, made int) {
	t.Helper()
	for _, most := range enough(made) {
		q, e := fuse.Fuse(p, most)
		if e != api.OK {
			t.Fatalf("Fuse of at most %d nodes: error %d; of %s", most, e, tellRules(p))
		}
		wantProgram(t, "Fuse", q, want)
	}
	for _, most := range tooFew(made) {
		wantNotFused(t, p, most, api.ErrNodeLimit)
	}
}

// wantByWords holds both calls against the chapter's words; it answers how many nodes each attribute needs.
func wantByWords(t *testing.T, p api.Program) []int {
	t.Helper()
	q, made := wordsFuse(t, p)
	for attr := range p.Space {
		classes, _ := wordsAlike(p, attr)
		wantAlike(t, p, attr, classes, made[attr])
	}
	wantFused(t, p, q, slices.Max(made))
	return made
}

// farNumbers are none that anything here may have; some would be, if they were cut to fewer bits.
func farNumbers() []int {
	return []int{-1, -2, -8192, 8193, 8194, 1 << 16, 1<<16 + 1, 1<<16 + 1000, 1 << 32, 1<<32 + 1, 1<<32 + 1000, math.MinInt, math.MinInt + 1, math.MinInt + 1000, math.MaxInt, math.MaxInt32, math.MinInt32}
}

func pick[T any](r *rand.Rand, l ...T) T { return l[r.Intn(len(l))] }

// randomSpace is one of few points.
func randomSpace(t *testing.T, r *rand.Rand) []api.Attr {
	t.Helper()
	return program(t, pick(r,
		"",
		"allow a when port in {1} or port in {2} or port in {3};",
		"allow a when addr in {10.0.0.0/8} or addr in {11.0.0.0/8} or port in {80-90};",
		`allow a when addr in {10.0.0.0/8} or method in {GET} or has "k";`,
		`allow a when addr in {10.0.0.0/8} or port in {80} or method in {GET} or method in {PUT};`,
		`allow a when addr in {10.0.0.0/8} or port in {80} or path ~ "/a/*";`,
		`allow a when port in {80} or method in {GET} or has "k" or header "l" ~ "a*";`,
		`allow a when port in {80} or port in {90} or method in {GET} or method in {PUT} or method in {A};`,
		`allow a when port in {80} or port in {85-443} or method in {GET} or method in {PUT} or has "k";`,
		`allow a when header "a" ~ "x*" or header "b" ~ "*y" or has "a" or method in {GET};`,
		`allow a when addr in {10.0.0.0/8} or addr in {10.1.0.0/16} or path ~ "/a/**" or path ~ "/b";`,
		`allow a when path ~ "/a/**" or path ~ "/b" or method in {GET} or header "k" ~ "v" or header "k" ~ "w*";`,
	)).Space
}

// randomGroups put some classes of a level into one.
func randomGroups(r *rand.Rand, size int) []int {
	few := 1 + r.Intn(size)
	out := make([]int, size)
	for class := range out {
		out[class] = r.Intn(few)
	}
	return out
}

// randomProgram is a right one of few points, in an order of its own. Its rules often tell groups of classes apart alone.
func randomProgram(t *testing.T, r *rand.Rand) api.Program {
	t.Helper()
	x := randomSpace(t, r)
	p := api.Program{Space: x, Order: r.Perm(len(x))}
	w := newWords(sizesOf(p))
	groups := make([][]int, len(w.sizes))
	for level, size := range w.sizes {
		groups[level] = pick(r, upTo(size), upTo(size), make([]int, size), randomGroups(r, size), randomGroups(r, size))
	}
	many := pick(r, 0, 1, 1, 2, 2, 3, 4, 5, 6)
	second := pick(r, 0, many, many/2, r.Intn(many+1))
	for i := range many {
		rule := api.Ruled{Effect: pick(r, api.ItemAllow, api.ItemDeny), Name: fmt.Sprint("n", i), Root: w.put(randomTable(r, w, groups))}
		if i >= second {
			rule.Policy = 1
		}
		p.Rules = append(p.Rules, rule)
	}
	p.Nodes = w.nodes
	return p
}

// randomTable says the same of points that are in the same groups, level by level; some levels it does not ask at all.
func randomTable(r *rand.Rand, w *words, groups [][]int) table {
	asks := make([]bool, len(w.sizes))
	for level := range asks {
		asks[level] = r.Intn(5) > 0
	}
	often := pick(r, 1, 1, 1, 2, 4)
	met := map[string]bool{}
	out := make(table, w.points())
	for n := range out {
		key := ""
		for level, class := range w.point(n) {
			if asks[level] {
				key += fmt.Sprint(level, groups[level][class], " ")
			}
		}
		if _, is := met[key]; !is {
			met[key] = r.Intn(often+1) == 0
		}
		out[n] = met[key]
	}
	return out
}

// copyOf has no memory in common with a program, but for its attributes' lists.
func copyOf(p api.Program) api.Program {
	p.Space, p.Order, p.Nodes, p.Rules = slices.Clone(p.Space), slices.Clone(p.Order), slices.Clone(p.Nodes), slices.Clone(p.Rules)
	for i, n := range p.Nodes {
		p.Nodes[i].Kids = slices.Clone(n.Kids)
	}
	return p
}

// inParallel runs a test with several seeds; all have ended behind it.
func inParallel(t *testing.T, run func(t *testing.T, r *rand.Rand)) {
	t.Run("seeds", func(t *testing.T) {
		for seed := range 6 {
			t.Run(fmt.Sprint(seed), func(t *testing.T) {
				t.Parallel()
				run(t, rand.New(rand.NewSource(int64(seed)+100)))
			})
		}
	})
}

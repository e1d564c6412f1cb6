package lower_test

import (
	"fmt"
	"math"
	"math/rand"
	"slices"
	"strings"
	"testing"

	"lychgate/api"
	"lychgate/arena"
	"lychgate/atom"
	"lychgate/check"
	"lychgate/lower"
	"lychgate/request"
	"lychgate/space"
)

// chapter is the policy of the chapter's examples.
const chapter = "allow a when port in {80} and method in {GET}; deny b when port in {80};"

// policy is what a source says.
func policy(t *testing.T, s string) api.Policy {
	t.Helper()
	p, e, at := check.Accept(s)
	if e != api.OK {
		t.Fatalf("%s: error %d at %d", s, e, at)
	}
	return p
}

func policies(t *testing.T, sources ...string) []api.Policy {
	t.Helper()
	var out []api.Policy
	for _, s := range sources {
		out = append(out, policy(t, s))
	}
	return out
}

// program is what some sources are compiled into.
func program(t *testing.T, sources ...string) api.Program {
	t.Helper()
	p, e := lower.Compile(policies(t, sources...), api.MaxNodes)
	if e != api.OK {
		t.Fatalf("%q: error %d", sources, e)
	}
	return p
}

// What follows is about diagrams by the chapters' words, by other means than the package does: what a condition says stands in a table of all points, and its diagram is found by cutting that into pieces.

// table says of each point, the last level's class rising first, whether it is true there.
type table []bool

// words has the nodes that tables' diagrams have, in the order in which they are made.
type words struct {
	sizes []int
	nodes []api.Node
	refs  map[string]int
}

func newWords(sizes []int) *words { return &words{sizes: sizes, refs: map[string]int{}} }

func (w *words) points() int {
	n := 1
	for _, size := range w.sizes {
		n *= size
	}
	return n
}

// point is the n-th one.
func (w *words) point(n int) []int {
	out := make([]int, len(w.sizes))
	for level := len(out) - 1; level >= 0; level-- {
		out[level] = n % w.sizes[level]
		n /= w.sizes[level]
	}
	return out
}

// put is the diagram of a table.
func (w *words) put(s table) int { return w.from(0, s) }

func (w *words) from(level int, s table) int {
	if level == len(w.sizes) {
		return map[bool]int{false: 0, true: 1}[s[0]]
	}
	var kids []int
	for piece := range slices.Chunk(s, len(s)/w.sizes[level]) {
		kids = append(kids, w.from(level+1, piece))
	}
	if slices.Min(kids) == slices.Max(kids) {
		return kids[0]
	}
	key := fmt.Sprint(level, kids)
	if _, is := w.refs[key]; !is {
		w.refs[key] = len(w.nodes) + 2
		w.nodes = append(w.nodes, api.Node{Level: level, Kids: kids})
	}
	return w.refs[key]
}

// says is the table of a ref.
func (w *words) says(f int) table {
	out := make(table, w.points())
	for n := range out {
		g, at := f, w.point(n)
		for g > 1 {
			g = w.nodes[g-2].Kids[at[w.nodes[g-2].Level]]
		}
		out[n] = g == 1
	}
	return out
}

func not(s table) table {
	out := slices.Clone(s)
	for n := range out {
		out[n] = !out[n]
	}
	return out
}

func both(s, u table) table {
	out := slices.Clone(s)
	for n := range out {
		out[n] = s[n] && u[n]
	}
	return out
}

func either(s, u table) table { return not(both(not(s), not(u))) }

// compiled is what Compile has to make: the program, and how many nodes are made on the way.
type compiled struct {
	program api.Program
	made    int
}

// wordsCompile is L1 by its words, of policies that are taken and have few points; all attributes must have room.
func wordsCompile(t *testing.T, l []api.Policy) compiled {
	t.Helper()
	tests, _ := atom.All(l)
	x, e := space.Build(tests)
	if e != api.OK {
		t.Fatalf("Build: error %d", e)
	}
	way := newWay(t, x)
	end := newWords(way.sizes)
	out := compiled{program: api.Program{Space: x, Order: upTo(len(x))}}
	for number, p := range l {
		way.lets = map[string]table{}
		for _, item := range p.Items {
			s := way.cond(item.Cond)
			if item.Kind == api.ItemLet {
				way.lets[item.Name] = s
				continue
			}
			out.program.Rules = append(out.program.Rules, api.Ruled{Policy: number, Effect: item.Kind, Name: item.Name, Root: end.put(s)})
		}
	}
	out.program.Nodes, out.made = end.nodes, len(way.nodes)
	return out
}

// wordsWay makes conditions one behind the other; it has a request of each class of each attribute.
type wordsWay struct {
	*words
	x       []api.Attr
	classes [][]api.Request
	lets    map[string]table
}

func newWay(t *testing.T, x []api.Attr) *wordsWay {
	t.Helper()
	w := &wordsWay{x: x, words: newWords(sizesOf(x, upTo(len(x)))), classes: make([][]api.Request, len(x))}
	for at, y := range x {
		for class := range y.Size {
			m, e := space.Least(y, class)
			if e != api.OK {
				t.Fatalf("Least: error %d", e)
			}
			r := api.Request{Method: "X", Path: "/", Addr: m.Number, Port: m.Number}
			switch y.Kind {
			case api.AttrAddr:
				r.Port = 0
			case api.AttrPort:
				r.Addr = 0
			case api.AttrMethod:
				r.Method = m.Text
			case api.AttrPath:
				r.Path = m.Text
			case api.AttrHeader:
				r.Headers = []api.Field{{Name: y.Name, Value: m.Text}}[:map[bool]int{false: 1}[m.None]]
			}
			w.classes[at] = append(w.classes[at], r)
		}
	}
	return w
}

// cond is what a condition says; all that is made of it is put.
func (w *wordsWay) cond(c api.Cond) table {
	var out table
	switch c.Kind {
	case api.CondTrue, api.CondFalse:
		out = slices.Repeat(table{c.Kind == api.CondTrue}, w.points())
	case api.CondName:
		out = w.lets[c.Name]
	case api.CondNot:
		out = not(w.cond(c.Kids[0]))
	case api.CondAnd, api.CondOr:
		out = w.cond(c.Kids[0])
		for _, kid := range c.Kids[1:] {
			if s := w.cond(kid); c.Kind == api.CondAnd {
				out = both(out, s)
			} else {
				out = either(out, s)
			}
			w.put(out)
		}
	default:
		out = w.test(c)
	}
	w.put(out)
	return out
}

// test asks layer 10 of a request of each class.
func (w *wordsWay) test(c api.Cond) table {
	a, _ := atom.Of(c)
	kinds := map[int]int{api.CondAddr: 0, api.CondPort: 1, api.CondMethod: 2, api.CondPath: 3}
	level, is := kinds[c.Kind]
	if !is {
		level = slices.IndexFunc(w.x, func(y api.Attr) bool { return y.Kind == api.AttrHeader && y.Name == c.Name })
	}
	var pass []bool
	for _, r := range w.classes[level] {
		is, _ := atom.Test(a, r)
		pass = append(pass, is)
	}
	out := make(table, w.points())
	for n := range out {
		out[n] = pass[w.point(n)[level]]
	}
	return out
}

func upTo(n int) []int {
	out := make([]int, n)
	for i := range out {
		out[i] = i
	}
	return out
}

// sizesOf are those of a program's levels.
func sizesOf(x []api.Attr, order []int) []int {
	var out []int
	for _, at := range order {
		out = append(out, x[at].Size)
	}
	return out
}

func rootsOf(p api.Program) []int {
	var out []int
	for _, x := range p.Rules {
		out = append(out, x.Root)
	}
	return out
}

// tell is all of a thing as text, whether its empty lists are nil or not.
func tell(x any) string { return fmt.Sprintf("%+v", x) }

func wantProgram(t *testing.T, got, want api.Program) {
	t.Helper()
	if tell(got) != tell(want) {
		t.Fatalf("%s\nwant %s", tell(got), tell(want))
	}
}

func newArena(t *testing.T, sizes []int, most int) *arena.Arena {
	t.Helper()
	a, e := arena.New(sizes, most)
	if e != api.OK {
		t.Fatalf("New(%v, %d): error %d", sizes, most, e)
	}
	return a
}

// arenaOf is an arena as some words have it.
func arenaOf(t *testing.T, w *words, most int) *arena.Arena {
	t.Helper()
	a := newArena(t, w.sizes, most)
	for i, n := range w.nodes {
		if f, e := a.Make(n.Level, n.Kids); f != i+2 || e != api.OK {
			t.Fatalf("Make(%d, %v): %d, error %d", n.Level, n.Kids, f, e)
		}
	}
	return a
}

func allNodes(t *testing.T, a *arena.Arena) []api.Node {
	t.Helper()
	var out []api.Node
	for i := range a.Len() {
		n, e := a.Node(i + 2)
		if e != api.OK {
			t.Fatalf("Node(%d): error %d", i+2, e)
		}
		out = append(out, n)
	}
	return out
}

// wantArena looks at all that an arena tells.
func wantArena(t *testing.T, a *arena.Arena, sizes []int, most int, nodes []api.Node) {
	t.Helper()
	if got := allNodes(t, a); tell(got) != tell(nodes) {
		t.Fatalf("nodes: %v; want %v", got, nodes)
	}
	if !slices.Equal(a.Sizes(), sizes) || a.Most() != most {
		t.Fatalf("sizes %v, at most %d; want %v, at most %d", a.Sizes(), a.Most(), sizes, most)
	}
}

// farNumbers are none that anything here may have; some would be, if they were cut to fewer bits.
func farNumbers() []int {
	return []int{-1, -2, -3, 8194, 1 << 16, 1<<16 + 1, 1<<16 + 2, 1 << 32, 1<<32 + 1, 1<<32 + 2, math.MinInt, math.MinInt + 1, math.MinInt + 2, math.MaxInt, math.MaxInt - 1}
}

func pick[T any](r *rand.Rand, l ...T) T { return l[r.Intn(len(l))] }

// some is a text of 1 to n parts with a comma between.
func some(r *rand.Rand, n int, one func() string) string {
	l := []string{one()}
	for range r.Intn(n) {
		l = append(l, one())
	}
	return strings.Join(l, ",")
}

// randomTest is a condition without parts.
func randomTest(r *rand.Rand) string {
	header := pick(r, "a", "b", "x-1")
	// Paths have many classes, so they are asked less often.
	switch r.Intn(8) {
	case 0:
		return "addr in {" + some(r, 2, func() string {
			return pick(r, "10.0.0.0/8", "10.1.0.0/16", "11.0.0.0/8", "0.0.0.0/0", "1.2.3.4", "128.0.0.0/1")
		}) + "}"
	case 1:
		return "port in {" + some(r, 2, func() string { return pick(r, "80", "80-90", "0-65535", "85-443", "65535", "0") }) + "}"
	case 2:
		return "method in {" + some(r, 2, func() string { return pick(r, "GET", "PUT", "A", "POST", "ABCDEFGHIJKLMNOP") }) + "}"
	case 3:
		return `path ~ "` + pick(r, "/a", "/a*", "/a/**", "/*/b", "**", "/", "/?", "*b", "a", "/a/b", "**b**") + `"`
	case 4:
		return `header "` + header + `" ~ "` + pick(r, "", "a*", "*", "**", "[ab]?", "*b", "x") + `"`
	}
	return `has "` + header + `"`
}

// randomCond is a condition of some depth at most; names are those that may stand there.
func randomCond(r *rand.Rand, deep int, names []string) string {
	kind := r.Intn(14)
	if deep == 1 {
		kind = r.Intn(6)
	}
	switch {
	case kind == 0 && r.Intn(2) == 0:
		return pick(r, "true", "false")
	case kind == 1 && len(names) > 0:
		return pick(r, names...)
	case kind < 6:
		return randomTest(r)
	case kind < 8:
		return "not (" + randomCond(r, deep-1, names) + ")"
	}
	var l []string
	for range 2 + r.Intn(2) {
		l = append(l, "("+randomCond(r, deep-1, names)+")")
	}
	return strings.Join(l, pick(r, " and ", " or "))
}

// randomSum is a row of rows, which have more nodes than other conditions.
func randomSum(r *rand.Rand, names []string) string {
	var l []string
	for range 2 + r.Intn(3) {
		l = append(l, randomCond(r, 1, names)+" and not "+randomCond(r, 1, names)+" and "+randomCond(r, 1, names))
	}
	return strings.Join(l, " or ")
}

// randomSource is that of a policy of so many items at most.
func randomSource(r *rand.Rand, most int) string {
	out := ""
	var names []string
	for i := range r.Intn(most + 1) {
		name := fmt.Sprint("n", i)
		cond := randomCond(r, 4, names)
		if r.Intn(2) == 0 {
			cond = randomSum(r, names)
		}
		switch r.Intn(4) {
		case 0:
			out += "let " + name + " = " + cond + ";"
			names = append(names, name)
		case 1:
			out += "deny " + name + " when " + cond + ";"
		default:
			out += "allow " + name + " when " + cond + ";"
		}
	}
	return out
}

// mostPoints keeps tables short.
const mostPoints = 3000

// randomPolicies are one or two that together have few points.
func randomPolicies(t *testing.T, r *rand.Rand, items int) []api.Policy {
	t.Helper()
	for {
		l := policies(t, randomSource(r, items))
		if r.Intn(3) == 0 {
			l = append(l, policy(t, randomSource(r, items)))
		}
		tests, _ := atom.All(l)
		x, e := space.Build(tests)
		if e == api.OK && newWords(sizesOf(x, upTo(len(x)))).points() <= mostPoints {
			return l
		}
	}
}

// randomRequest is one that the tests of randomTest tell from others.
func randomRequest(r *rand.Rand) api.Request {
	out := api.Request{
		Method: pick(r, "GET", "PUT", "A", "POST", "ABCDEFGHIJKLMNOP", "B"),
		Path:   pick(r, "/", "/a", "/ab", "/a/b", "/a/b/c", "/b", "/x/b", "/!", "/b/x"),
		Addr:   pick(r, 0, 10<<24, 10<<24+1<<16+5, 11<<24, 16909060, 1<<31, api.MaxWord),
		Port:   pick(r, 0, 80, 85, 90, 91, 443, 444, 65535),
	}
	for _, name := range []string{"a", "b", "c", "x-1"} {
		if r.Intn(2) == 0 {
			out.Headers = append(out.Headers, api.Field{Name: name, Value: pick(r, "", "a", "ab", "b", "xb", "x", "a/b", "a b")})
		}
	}
	return out
}

// randomWords have diagrams of tables at random, some of which have much in common.
func randomWords(r *rand.Rand, sizes []int, many int) *words {
	w := newWords(sizes)
	last := slices.Repeat(table{false}, w.points())
	for range many {
		s := slices.Clone(last)
		often := 1 + r.Intn(8)
		for n := range s {
			if r.Intn(often) == 0 {
				s[n] = r.Intn(2) == 0
			}
		}
		w.put(s)
		last = s
	}
	return w
}

// randomSpace is one of few points, in an order of its own.
func randomSpace(t *testing.T, r *rand.Rand) ([]api.Attr, []int) {
	t.Helper()
	for {
		var tests []string
		for range r.Intn(5) {
			tests = append(tests, "allow n"+fmt.Sprint(len(tests))+" when "+randomTest(r)+";")
		}
		l, _ := atom.All(policies(t, strings.Join(tests, "")))
		x, e := space.Build(l)
		if e == api.OK && newWords(sizesOf(x, upTo(len(x)))).points() <= 200 {
			return x, r.Perm(len(x))
		}
	}
}

// randomRules have roots in an arena as some words have it.
func randomRules(r *rand.Rand, w *words) []api.Ruled {
	out := make([]api.Ruled, r.Intn(7))
	second := r.Intn(len(out) + 1)
	for i := range out {
		out[i] = api.Ruled{Effect: pick(r, api.ItemAllow, api.ItemDeny), Name: pick(r, "a", "b", "x-1", "n_"), Root: max(r.Intn(len(w.nodes)+2), r.Intn(len(w.nodes)+2))}
		if i >= second {
			out[i].Policy = 1
		}
	}
	return out
}

// wordsClose is L4 by its words: what the roots say is put anew, in their order.
func wordsClose(x []api.Attr, order []int, w *words, l []api.Ruled) api.Program {
	end := newWords(w.sizes)
	p := api.Program{Space: x, Order: order}
	for _, rule := range l {
		rule.Root = end.put(w.says(rule.Root))
		p.Rules = append(p.Rules, rule)
	}
	p.Nodes = end.nodes
	return p
}

// randomProgram is a right one.
func randomProgram(t *testing.T, r *rand.Rand) api.Program {
	t.Helper()
	x, order := randomSpace(t, r)
	w := randomWords(r, sizesOf(x, order), 1+r.Intn(4))
	return wordsClose(x, order, w, randomRules(r, w))
}

// copyOf has no memory in common with a program, but for its attributes' lists.
func copyOf(p api.Program) api.Program {
	p.Space, p.Order, p.Nodes, p.Rules = slices.Clone(p.Space), slices.Clone(p.Order), slices.Clone(p.Nodes), slices.Clone(p.Rules)
	for i, n := range p.Nodes {
		p.Nodes[i].Kids = slices.Clone(n.Kids)
	}
	return p
}

// asked is a request, as its text tells it.
func asked(t *testing.T, s string) api.Request {
	t.Helper()
	r, e := request.Decode(s)
	if e != api.OK {
		t.Fatalf("%q: error %d", s, e)
	}
	return r
}

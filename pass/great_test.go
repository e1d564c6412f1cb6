package pass_test

import (
	"fmt"
	"math/rand"
	"slices"
	"testing"

	"lychgate/api"
	"lychgate/arena"
	"lychgate/glob"
	"lychgate/lower"
	"lychgate/pass"
	"lychgate/space"
)

// withHeaders has a rule for each header, that asks for the port, too.
func withHeaders(headers string) string {
	out := ""
	for _, name := range headers {
		out += fmt.Sprintf("allow h-%c when port in {80} and has %q;", name, string(name))
	}
	return out
}

// The port is asked ahead of each header, where it had better be asked behind all.
func TestUpToAsManyLevelsAsMayBe(t *testing.T) {
	for n := range 9 {
		headers := "abcdefgh"[:n]
		p := program(t, withHeaders(headers[:n/2]), withHeaders(headers[n/2:]))
		want, _ := wordsOrder(p)
		if len(p.Order) != 4+n || len(p.Nodes) != 2*n || len(want.Nodes) != min(n+1, 2*n) {
			t.Fatalf("%d levels, %d nodes; behind Order %d", len(p.Order), len(p.Nodes), len(want.Nodes))
		}
		wantOrder(t, p, len(p.Nodes), want)
		wantRun(t, p, []int{1, 3, 4}, api.MaxNodes, want)
	}
}

// As many rules as may be.
func TestAsManyRulesAsMayBe(t *testing.T) {
	source := func(k int) string {
		out := ""
		for i := range api.MaxItems {
			out += fmt.Sprintf("allow r%d when port in {%d} and method in {%c%c};", i, 80+i/25%2+k*i/50, 'A'+i%25, 'A'+i%25)
		}
		return out
	}
	p := program(t, source(0), source(1))
	if len(p.Rules) != 200 {
		t.Fatalf("%d rules", len(p.Rules))
	}
	want, moved := wordsOrder(p)
	if moved == 0 || len(want.Nodes) >= len(p.Nodes) {
		t.Errorf("%d levels moved: %d nodes, ahead of it %d", moved, len(want.Nodes), len(p.Nodes))
	}
	wantOrder(t, p, len(p.Nodes), want)
	wantNoOrder(t, p, len(p.Nodes)-1, api.ErrNodeLimit)
	wantRun(t, p, nil, 0, p)
	// The ports 80 and 81 of the first policy, 80 to 82 of the second one; 25 methods.
	q := mustRun(t, p, 1, 2, 3, 4)
	if names(q) != "0r0 1r0" || tell(counts(q)) != "[1 3 2 1]" || len(q.Nodes) != 3 {
		t.Errorf("%s", tellRules(q))
	}
}

// pathOf is a test of a path of one byte.
func pathOf(t *testing.T, b byte) api.Atom {
	t.Helper()
	l, e, at := glob.Parse("/" + string(rune(b)))
	if e != api.OK {
		t.Fatalf("Parse: error %d at %d", e, at)
	}
	return api.Atom{Kind: api.CondPath, Pieces: l}
}

// greatSpace has so many classes of addresses and of methods, and of ports and of paths.
func greatSpace(t *testing.T, n, m int) []api.Attr {
	t.Helper()
	letters := "abcdefghijklmnopqrstuvwxyzABCDEFGHIJKLMNOPQRSTUVWXYZ0123456789"
	tests := make([][]api.Atom, 4) // by attributes
	for i := range n - 1 {
		tests[0] = append(tests[0], api.Atom{Kind: api.CondAddr, Spans: []api.Span{{Lo: 2 * i, Hi: 2 * i}}})
		tests[2] = append(tests[2], api.Atom{Kind: api.CondMethod, Names: []string{fmt.Sprintf("%c%c", 'A'+i/26, 'A'+i%26)}})
	}
	for i := range m - 1 {
		tests[1] = append(tests[1], api.Atom{Kind: api.CondPort, Spans: []api.Span{{Lo: 2 * i, Hi: 2 * i}}})
		tests[3] = append(tests[3], pathOf(t, letters[i]))
	}
	var out []api.Attr
	for i, l := range tests {
		x, e := space.Build(l)
		if e != api.OK {
			t.Fatalf("Build: error %d", e)
		}
		out = append(out, x[i])
	}
	return out
}

// greatPairs is true where the address has the class of the method, and the port that of the path: (n+1)(m+1) nodes, of which n+m+2 are enough in another order.
func greatPairs(t *testing.T, n, m int) api.Program {
	t.Helper()
	x := greatSpace(t, n, m)
	a, e := arena.New([]int{n, m, n, m}, api.MaxNodes)
	if e != api.OK || !space.Right(x) {
		t.Fatalf("New: error %d", e)
	}
	made := func(level int, kids []int) int {
		f, e := a.Make(level, kids)
		if e != api.OK {
			t.Fatalf("Make: error %d", e)
		}
		return f
	}
	only := func(size, class, f int) []int {
		kids := make([]int, size)
		kids[class] = f
		return kids
	}
	addrs := make([]int, n)
	for i := range addrs {
		ports := make([]int, m)
		for k := range ports {
			ports[k] = made(2, only(n, i, made(3, only(m, k, 1))))
		}
		addrs[i] = made(1, ports)
	}
	p, e := lower.Close(x, upTo(4), a, []api.Ruled{{Effect: api.ItemAllow, Name: "a", Root: made(0, addrs)}})
	if e != api.OK || len(p.Nodes) != (n+1)*(m+1) {
		t.Fatalf("%d nodes, error %d", len(p.Nodes), e)
	}
	return p
}

// wantPairs: it is what greatPairs gave, in the better order.
func wantPairs(t *testing.T, p api.Program, n, m int) {
	t.Helper()
	if !lower.Right(p) || !slices.Equal(p.Order, []int{0, 2, 1, 3}) || len(p.Nodes) != n+m+2 {
		t.Fatalf("%v, %d nodes", p.Order, len(p.Nodes))
	}
	r := rand.New(rand.NewSource(int64(n)))
	for range 20 {
		i, k := r.Intn(n), r.Intn(m)
		for _, classes := range [][]int{{i, k, i, k}, {i, k, i, (k + 1) % m}, {i, k, (i + 1) % n, k}} {
			asked, e := space.Request(p.Space, classes)
			want := map[bool]int{true: api.Allow, false: api.Deny}[classes[2] == i && classes[3] == k]
			if got, f := lower.Judge(p, 0, asked); got != want || e != api.OK || f != api.OK {
				t.Fatalf("%v: %d, errors %d, %d", classes, got, e, f)
			}
		}
	}
}

// Up to the last node that an arena may have.
func TestAsManyNodesAsMayBe(t *testing.T) {
	p := greatPairs(t, 127, 63)
	if len(p.Nodes) != api.MaxNodes {
		t.Fatalf("%d nodes", len(p.Nodes))
	}
	q, e := pass.Order(p, api.MaxNodes)
	if e != api.OK {
		t.Fatalf("error %d", e)
	}
	wantPairs(t, q, 127, 63)
	wantNoOrder(t, p, api.MaxNodes-1, api.ErrNodeLimit)
	wantRun(t, p, nil, 0, p)
	wantRun(t, p, []int{1, 2}, api.MaxNodes, p)
	wantRun(t, p, []int{2, 4, 4, 1}, api.MaxNodes, q)
	wantNotRun(t, p, []int{1}, api.MaxNodes-1, api.ErrNodeLimit)
	wantNotRun(t, p, []int{3, 4}, api.MaxNodes, api.ErrNodeLimit)
}

// Where a path's class is known there is much to be made: for each one a node of each address, and one of all. Behind Order there are so few nodes that there is room for that.
func TestOrderMakesRoom(t *testing.T) {
	n, m := 40, 40
	p := greatPairs(t, n, m)
	q := mustRun(t, p, api.PassOrder)
	wantPairs(t, q, n, m)
	enough := len(q.Nodes) + m*(n+2)
	if wantByWords(t, p, []int{4, 3}) != enough || len(p.Nodes) >= enough {
		t.Errorf("not %d nodes are enough", enough)
	}
	wantRun(t, p, []int{4, 3}, enough, q)
	wantNotRun(t, p, []int{4, 3}, enough-1, api.ErrNodeLimit)
	wantNotRun(t, p, []int{3, 4}, enough, api.ErrNodeLimit)
	wantNotRun(t, p, []int{3}, enough, api.ErrNodeLimit)
}

// As often as one likes.
func TestManyPasses(t *testing.T) {
	r := rand.New(rand.NewSource(21))
	var passes []int
	for range 300 {
		passes = append(passes, 1+r.Intn(4))
	}
	p := program(t, better, rows)
	want, e := wordsRun(p, passes, 100)
	if e != api.OK {
		t.Fatalf("error %d", e)
	}
	wantRun(t, p, passes, 100, want)
	wantNotRun(t, p, append(passes, 5), 100, api.ErrArg)
}

package lower_test

import (
	"fmt"
	"slices"
	"strings"
	"testing"

	"lychgate/api"
	"lychgate/lower"
	"lychgate/space"
)

// fourHeaders is a policy that speaks of four headers; two of them with other names have as many levels as an arena may have.
func fourHeaders(names string) string {
	var l []string
	for _, name := range strings.Split(names, "") {
		l = append(l, `has "`+name+`"`)
	}
	return "allow r when " + strings.Join(l, " and ") + "; deny s when not (" + strings.Join(l, " or ") + ");"
}

func TestAsManyLevelsAsMayBe(t *testing.T) {
	l := policies(t, fourHeaders("aceg"), fourHeaders("bdfh"))
	want := wordsCompile(t, l)
	wantMade(t, want.made, want.program, l...)
	if len(want.program.Order) != 12 {
		t.Errorf("%d levels", len(want.program.Order))
	}
	wantRight(t, "12 levels", want.program, true)
}

// As many items as may be, in both policies: 200 rules.
func TestAsManyItemsAsMayBe(t *testing.T) {
	source := func(k int) string {
		out := ""
		for i := range api.MaxItems {
			out += fmt.Sprintf("allow r%d when port in {%d} and method in {%s};", i, 2*(i%60), []string{"GET", "PUT"}[(i/60+k)%2])
		}
		return out
	}
	l := policies(t, source(0), source(1))
	p, e := lower.Compile(l, api.MaxNodes)
	if e != api.OK || len(p.Rules) != 200 || p.Rules[199].Policy != 1 || p.Rules[100].Name != "r0" {
		t.Fatalf("%d rules, error %d", len(p.Rules), e)
	}
	want := wordsCompile(t, l)
	wantMade(t, want.made, want.program, l...)
}

// wide is a program of just so many nodes: a rule asks for a port, and each port leads to addresses of its own.
func wide(t *testing.T, nodes int) api.Program {
	t.Helper()
	var tests []api.Atom
	for i := range 100 {
		tests = append(tests, api.Atom{Kind: api.CondPort, Spans: []api.Span{{Lo: 2*i + 1, Hi: 2*i + 1}}})
	}
	for i := range 14 {
		tests = append(tests, api.Atom{Kind: api.CondAddr, Spans: []api.Span{{Lo: 2*i + 1, Hi: 2*i + 1}}})
	}
	x, e := space.Build(tests)
	if e != api.OK {
		t.Fatalf("Build: error %d", e)
	}
	order := []int{1, 0, 2, 3}
	a := newArena(t, sizesOf(x, order), api.MaxNodes)
	var rules []api.Ruled
	for a.Len() < nodes {
		kids := make([]int, 101)
		for port := range kids {
			if a.Len()+1 < nodes {
				kids[port], _ = a.Make(1, bits(1+a.Len()))
			}
		}
		root, e := a.Make(0, kids)
		if e != api.OK {
			t.Fatalf("Make: error %d", e)
		}
		rules = append(rules, api.Ruled{Effect: api.ItemAllow, Name: "a", Root: root})
	}
	p, e := lower.Close(x, order, a, rules)
	if e != api.OK || len(p.Nodes) != nodes {
		t.Fatalf("%d nodes, error %d", len(p.Nodes), e)
	}
	return p
}

// bits are fifteen of a number.
func bits(n int) []int {
	out := make([]int, 15)
	for i := range out {
		out[i] = n >> i & 1
	}
	return out
}

func TestAsManyNodesAsMayBe(t *testing.T) {
	p := wide(t, api.MaxNodes)
	wantRight(t, "8192 nodes", p, true)
	wantOpen(t, p, api.MaxNodes)
	wantNotOpen(t, api.ErrNodeLimit, p, api.MaxNodes-1)
	wantNotOpen(t, api.ErrNodeLimit, p, 0)
	// One more, though all else is as it should be.
	q := copyOf(p)
	q.Nodes = append(q.Nodes, node(1, slices.Repeat([]int{1, 0, 1}, 5)...))
	q.Rules = append(q.Rules, api.Ruled{Effect: api.ItemAllow, Name: "z", Root: api.MaxNodes + 2})
	wantRight(t, "8193 nodes", q, false)
	for _, most := range []int{0, api.MaxNodes} {
		wantNotOpen(t, api.ErrArg, q, most)
	}
}

// Many rules over three attributes of many classes.
func TestCompileGreat(t *testing.T) {
	source := func(n int) string {
		out := ""
		for i := range n {
			out += fmt.Sprintf("allow r%d when addr in {0.0.0.%d} and port in {%d} and method in {%s};", i, 2*(i%20), 2*(i*7%20), strings.Repeat("A", 1+i%10))
		}
		return out
	}
	l := policies(t, source(40)+"let x = true;")
	want := wordsCompile(t, l)
	wantMade(t, want.made, want.program, l...)
}

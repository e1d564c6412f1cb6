package lower_test

import (
	"fmt"
	"math"
	"math/rand"
	"slices"
	"strings"
	"testing"

	"lychgate/api"
	"lychgate/lower"
)

// wantMade looks also at the most nodes: just enough, and one too few.
func wantMade(t *testing.T, made int, want api.Program, l ...api.Policy) {
	t.Helper()
	for _, most := range []int{made, made + 1, api.MaxNodes} {
		p, e := lower.Compile(l, most)
		if e != api.OK {
			t.Fatalf("of %d nodes: error %d", most, e)
		}
		wantProgram(t, p, want)
	}
	if made > 0 {
		wantNotCompiled(t, api.ErrNodeLimit, made-1, l...)
		wantNotCompiled(t, api.ErrNodeLimit, 0, l...)
	}
}

func wantNotCompiled(t *testing.T, want api.Errno, most int, l ...api.Policy) {
	t.Helper()
	if p, e := lower.Compile(l, most); tell(p) != tell(api.Program{}) || e != want {
		t.Errorf("Compile of %d nodes: %+v, error %d; want error %d", most, p, e, want)
	}
}

// wantNodes is for policies whose nodes are written out, with how many are made on the way.
func wantNodes(t *testing.T, made int, nodes []api.Node, roots []int, sources ...string) {
	t.Helper()
	l := policies(t, sources...)
	p, e := lower.Compile(l, made)
	if e != api.OK || tell(p.Nodes) != tell(nodes) {
		t.Errorf("%q: %v, error %d; want %v", sources, p.Nodes, e, nodes)
		return
	}
	if got := rootsOf(p); !slices.Equal(got, roots) {
		t.Errorf("%q: %v; want %v", sources, got, roots)
	}
	if made > 0 {
		wantNotCompiled(t, api.ErrNodeLimit, made-1, l...)
	}
}

func node(level int, kids ...int) api.Node { return api.Node{Level: level, Kids: kids} }

func TestExampleOfCompile(t *testing.T) {
	p := program(t, chapter)
	nodes := []api.Node{node(2, 0, 1), node(1, 0, 2), node(1, 0, 1)}
	rules := []api.Ruled{{Effect: api.ItemAllow, Name: "a", Root: 3}, {Effect: api.ItemDeny, Name: "b", Root: 4}}
	if tell(p.Nodes) != tell(nodes) || tell(p.Rules) != tell(rules) || tell(p.Order) != "[0 1 2 3]" {
		t.Errorf("%+v", p)
	}
	for i, size := range []int{1, 2, 2, 1} {
		if p.Space[i].Size != size {
			t.Errorf("%d has %d classes", i, p.Space[i].Size)
		}
	}
	wantMade(t, 3, p, policy(t, chapter))
	wantNotCompiled(t, api.ErrNodeLimit, 2, policy(t, chapter))
}

// Each kind, with how many nodes are made.
func TestConditionsOfEachKind(t *testing.T) {
	for s, want := range map[string]struct {
		made  int
		nodes []api.Node
		root  int
	}{
		"true":                             {0, nil, 1},
		"false":                            {0, nil, 0},
		"not true":                         {0, nil, 0},
		"addr in {10.0.0.0/8}":             {1, []api.Node{node(0, 0, 1)}, 2},
		"addr in {0.0.0.0/1}":              {1, []api.Node{node(0, 1, 0)}, 2},
		"addr in {0.0.0.0/0}":              {0, nil, 1},
		"port in {80}":                     {1, []api.Node{node(1, 0, 1)}, 2},
		"port in {0-9, 5-65535}":           {0, nil, 1},
		"method in {PUT, GET}":             {1, []api.Node{node(2, 0, 1)}, 2},
		"method in {A}":                    {1, []api.Node{node(2, 1, 0)}, 2},
		`path ~ "/a"`:                      {1, []api.Node{node(3, 0, 1)}, 2},
		`path ~ "**"`:                      {0, nil, 1},
		`path ~ "a"`:                       {0, nil, 0},
		`has "k"`:                          {1, []api.Node{node(4, 0, 1)}, 2},
		`header "k" ~ "a*"`:                {1, []api.Node{node(4, 0, 1)}, 2},
		`header "k" ~ "**"`:                {1, []api.Node{node(4, 0, 1)}, 2},
		`header "k" ~ " "`:                 {0, nil, 0},
		"not port in {80}":                 {2, []api.Node{node(1, 1, 0)}, 2},
		"not not port in {80}":             {2, []api.Node{node(1, 0, 1)}, 2},
		`has "z" or has "k"`:               {3, []api.Node{node(5, 0, 1), node(4, 2, 1)}, 3},
		"port in {80} and port in {80-80}": {1, []api.Node{node(1, 0, 1)}, 2},
		"port in {80} or port in {90}":     {3, []api.Node{node(1, 0, 1, 1)}, 2},
		"port in {80} and port in {90}":    {2, nil, 0},
		`has "k" and not has "k"`:          {2, nil, 0},
		`has "k" or not has "k"`:           {2, nil, 1},
	} {
		wantNodes(t, want.made, want.nodes, []int{want.root}, "deny a when "+s+";")
	}
}

// What a row is put to makes no difference to its kids: they are made.
func TestKidsAreMadeThoughTheAnswerStands(t *testing.T) {
	for s, made := range map[string]int{
		"false and port in {80}":                                  1,
		"true or port in {80}":                                    1,
		"port in {80} and false":                                  1,
		"false and port in {80} and method in {GET}":              2,
		"true or (port in {80} and method in {GET})":              3,
		"false and (port in {80} or method in {GET})":             3,
		"false and not (port in {80} or method in {GET})":         5,
		"port in {80} or not port in {80} or method in {GET}":     3,
		"(true or port in {80}) and (false and not port in {80})": 2,
	} {
		root := 0
		if strings.HasPrefix(s, "true or") || strings.HasPrefix(s, "port in {80} or") {
			root = 1
		}
		wantNodes(t, made, nil, []int{root}, "allow a when "+s+";")
	}
}

// Rows are put together from the front on, each kid being made ahead of what it is put to.
func TestRowsGoFromTheFront(t *testing.T) {
	// 80, 90, both; GET, and with it; that is all of 80 or 90, and GET: no node of "90 or 80 and GET".
	wantNodes(t, 5, []api.Node{node(2, 0, 1), node(1, 0, 2, 2)}, []int{3}, "allow a when (port in {80} or port in {90}) and method in {GET};")
	// 80, GET, both, PUT, nothing: what has all of them has none.
	wantNodes(t, 4, nil, []int{0}, "allow a when port in {80} and method in {GET} and method in {PUT};")
	// GET, PUT, nothing, 80, nothing.
	wantNodes(t, 3, nil, []int{0}, "allow a when method in {GET} and method in {PUT} and port in {80};")
	wantNodes(t, 4, nil, []int{0}, "allow a when method in {GET} and (method in {PUT} and port in {80});")
}

// A name makes nothing of its own; lets are made where they stand, whether anybody uses them or not.
func TestNamesOfLets(t *testing.T) {
	wantNodes(t, 1, nil, nil, "let x = port in {80};")
	wantNodes(t, 2, []api.Node{node(1, 0, 1)}, []int{2, 2}, "let x = port in {80}; let y = not x; allow a when x; deny b when not y;")
	wantNodes(t, 3, []api.Node{node(2, 0, 1), node(1, 0, 2)}, []int{3, 3}, "let x = method in {GET}; let y = port in {80} and x; allow a when y; deny b when y and y;")
	wantNodes(t, 0, nil, []int{1, 0}, "let x = true; allow x1 when x; deny x2 when not x;")
	// Each policy has its own.
	wantNodes(t, 3, []api.Node{node(1, 0, 1), node(2, 0, 1)}, []int{2, 3}, "let x = port in {80}; allow a when x;", "let y = true or has \"k\"; let x = method in {GET}; allow a when x;")
	wantNodes(t, 0, nil, []int{1, 0, 0}, "let x = true; allow a when x;", "let x = false; allow a when x; deny b when x;")
}

func TestRulesStandInTheirOrder(t *testing.T) {
	p := program(t, "deny z when true; let x = false; allow a when x; deny b when true;", "allow z when true; deny a when false;")
	want := []api.Ruled{
		{Policy: 0, Effect: api.ItemDeny, Name: "z", Root: 1},
		{Policy: 0, Effect: api.ItemAllow, Name: "a", Root: 0},
		{Policy: 0, Effect: api.ItemDeny, Name: "b", Root: 1},
		{Policy: 1, Effect: api.ItemAllow, Name: "z", Root: 1},
		{Policy: 1, Effect: api.ItemDeny, Name: "a", Root: 0},
	}
	if tell(p.Rules) != tell(want) || len(p.Nodes) != 0 {
		t.Errorf("%+v", p)
	}
}

func TestPoliciesWithoutRules(t *testing.T) {
	for _, sources := range [][]string{{""}, {"", ""}, {"let a = true;"}, {"", "let a = false;"}} {
		p := program(t, sources...)
		wantMade(t, 0, p, policies(t, sources...)...)
		if len(p.Nodes) != 0 || len(p.Rules) != 0 || len(p.Space) != 4 || tell(p.Order) != "[0 1 2 3]" {
			t.Errorf("%q: %+v", sources, p)
		}
	}
	p := program(t, "", "allow a when true;")
	if tell(p.Rules) != tell([]api.Ruled{{Policy: 1, Effect: api.ItemAllow, Name: "a", Root: 1}}) {
		t.Errorf("%+v", p.Rules)
	}
}

// Two policies are told apart by the tests of both.
func TestTwoPoliciesHaveOneSpace(t *testing.T) {
	l := policies(t, `allow a when port in {80} or has "k";`, `deny b when port in {85} and has "b" or method in {A};`)
	want := wordsCompile(t, l)
	wantMade(t, want.made, want.program, l...)
	if p := want.program; tell(sizesOf(p.Space, p.Order)) != "[1 3 2 1 2 2]" || p.Space[4].Name != "b" || p.Space[5].Name != "k" {
		t.Errorf("%v", p.Space)
	}
}

func TestCompileRefuses(t *testing.T) {
	good, wrong := policy(t, chapter), api.Policy{Items: []api.Item{{Kind: 7}}}
	twice := policy(t, "allow a when true;")
	twice.Items = append(twice.Items, twice.Items[0])
	none := policy(t, "let b = true; allow a when b;")
	none.Items = none.Items[1:]
	for _, l := range [][]api.Policy{nil, {}, {good, good, good}, {{}, {}, {}}, {wrong}, {wrong, good}, {good, wrong}, {twice}, {good, twice}, {none}, {none, good}, {wrong, wrong, wrong}} {
		for _, most := range []int{0, 2, 3, api.MaxNodes} {
			wantNotCompiled(t, api.ErrArg, most, l...)
		}
	}
	// A let of one policy is none of another one's.
	wantNotCompiled(t, api.ErrArg, 100, policy(t, "let b = true;"), none)
	for _, most := range append(farNumbers(), api.MaxNodes+1, math.MaxInt32) {
		wantNotCompiled(t, api.ErrArg, most, good)
		wantNotCompiled(t, api.ErrArg, most, policy(t, ""))
		wantNotCompiled(t, api.ErrArg, most, wrong)
	}
}

// An attribute of too many classes has no room, whatever most is; but what may not be is told ahead of that.
func TestNoRoomForClasses(t *testing.T) {
	// Patterns that look back at nine bytes need more states than an automaton may have.
	deep := policy(t, `deny d when path ~ "**a????????";`)
	wantNotCompiled(t, api.ErrNodeLimit, api.MaxNodes, deep)
	wantNotCompiled(t, api.ErrNodeLimit, api.MaxNodes, policy(t, ""), deep)
	wantNotCompiled(t, api.ErrNodeLimit, 0, deep)
	wantNotCompiled(t, api.ErrArg, -1, deep)
	wantNotCompiled(t, api.ErrArg, api.MaxNodes, deep, deep, deep)
	wantNotCompiled(t, api.ErrArg, api.MaxNodes, deep, api.Policy{Items: []api.Item{{}}})
	// It counts in a let that nobody uses, and beside a kid that settles it.
	wantNotCompiled(t, api.ErrNodeLimit, api.MaxNodes, policy(t, `let d = false and path ~ "**a????????";`))
	// Each policy for itself has room, both have not.
	first, second := manyPorts(1000), manyPorts(2000)
	for _, p := range []api.Policy{first, second} {
		if x, e := lower.Compile([]api.Policy{p}, api.MaxNodes); e != api.OK || x.Space[1].Size != 193 {
			t.Errorf("error %d", e)
		}
	}
	wantNotCompiled(t, api.ErrNodeLimit, api.MaxNodes, first, second)
}

// manyPorts is a policy of 64 tests: each port from the first one on is in one of them, or in two.
func manyPorts(first int) api.Policy {
	var p api.Policy
	for i := range 64 {
		c := api.Cond{Kind: api.CondPort}
		for _, at := range []int{i, 64 + i, 64 + (i+1)%64, 128 + i, 128 + (i+2)%64} {
			c.Spans = append(c.Spans, api.Span{Lo: first + at, Hi: first + at})
		}
		p.Items = append(p.Items, api.Item{Kind: api.ItemAllow, Name: fmt.Sprint("r", i), Cond: c})
	}
	return p
}

// At random, against the chapter's words.
func TestCompileAtRandom(t *testing.T) {
	for seed := range 8 {
		t.Run(fmt.Sprint(seed), func(t *testing.T) {
			t.Parallel()
			compileAtRandom(t, rand.New(rand.NewSource(int64(seed))), 30)
		})
	}
}

func compileAtRandom(t *testing.T, r *rand.Rand, times int) {
	var two, great, onTheWay, several int
	for range times {
		l := randomPolicies(t, r, 5)
		want := wordsCompile(t, l)
		for _, most := range []int{want.made, api.MaxNodes} {
			p, e := lower.Compile(l, most)
			if e != api.OK {
				t.Fatalf("of %d nodes: error %d", most, e)
			}
			wantProgram(t, p, want.program)
		}
		if want.made > 0 {
			wantNotCompiled(t, api.ErrNodeLimit, want.made-1, l...)
		}
		if !lower.Right(want.program) {
			t.Fatalf("not right: %+v", want.program)
		}
		if len(l) == 2 {
			two++
		}
		if len(want.program.Nodes) > 10 {
			great++
		}
		if want.made > len(want.program.Nodes) {
			onTheWay++
		}
		if len(want.program.Rules) > 2 && len(want.program.Nodes) > 3 {
			several++
		}
	}
	if two < times/10 || great < times/10 || onTheWay < times/2 || several < times/10 {
		t.Errorf("%d of two, %d great, %d with more on the way, %d of several rules", two, great, onTheWay, several)
	}
}

package pass_test

import (
	"math/rand"
	"slices"
	"sync"
	"testing"

	"lychgate/api"
	"lychgate/lower"
	"lychgate/pass"
)

// pairs has two pairs of attributes that stand together in another order than that of the space: six nodes, where four are enough.
const pairs = `allow a when addr in {10.0.0.0/8} and method in {GET} or port in {80} and path ~ "/a";`

func node(level int, kids ...int) api.Node { return api.Node{Level: level, Kids: kids} }

func TestOrderOfPairs(t *testing.T) {
	p := program(t, pairs)
	if want := []api.Node{node(3, 0, 1), node(1, 0, 2), node(2, 0, 1), node(2, 2, 1), node(1, 4, 5), node(0, 3, 6)}; tell(p.Nodes) != tell(want) {
		t.Fatalf("%v", p.Nodes)
	}
	want := copyOf(p)
	want.Order = []int{0, 2, 1, 3}
	want.Nodes = []api.Node{node(3, 0, 1), node(2, 0, 2), node(1, 3, 1), node(0, 3, 4)}
	want.Rules[0].Root = 5
	for most := range 6 {
		wantNoOrder(t, p, most, api.ErrNodeLimit)
	}
	for _, most := range []int{6, 7, 100, api.MaxNodes} {
		wantOrder(t, p, most, want)
	}
	// Of what came of it nothing is better.
	for most := range 4 {
		wantNoOrder(t, want, most, api.ErrNodeLimit)
	}
	for _, most := range []int{4, 5, 6, api.MaxNodes} {
		wantOrder(t, want, most, want)
	}
}

// Best's places are those of the levels, not of the attributes.
func TestOrderOfAnotherOrder(t *testing.T) {
	p := program(t, pairs)
	for _, x := range []struct{ order, want []int }{
		{[]int{0, 2, 1, 3}, []int{0, 2, 1, 3}}, // four nodes already
		{[]int{3, 1, 2, 0}, []int{3, 1, 2, 0}},
		{[]int{3, 2, 1, 0}, []int{3, 1, 2, 0}}, // the places 0, 2, 1, 3, by their levels
		{[]int{2, 3, 0, 1}, []int{2, 0, 3, 1}},
		{[]int{1, 2, 3, 0}, []int{1, 3, 2, 0}},
		{[]int{0, 1, 3, 2}, []int{1, 3, 0, 2}}, // the places 1, 2, 0, 3
		{[]int{3, 0, 2, 1}, []int{0, 2, 3, 1}},
	} {
		q := turned(p, x.order)
		got, e := pass.Order(q, api.MaxNodes)
		if e != api.OK || !slices.Equal(got.Order, x.want) || len(got.Nodes) != 4 {
			t.Errorf("%v: %v, %d nodes, error %d; want %v, 4 nodes", x.order, got.Order, len(got.Nodes), e, x.want)
		}
		want, _ := wordsOrder(q)
		wantOrder(t, q, len(q.Nodes), want)
		wantNoOrder(t, q, len(q.Nodes)-1, api.ErrNodeLimit)
	}
}

// better is better again behind Order: first the header l is put ahead of all, then k behind it.
const better = `allow a when has "l" and has "k" or not has "l" and port in {80} and addr in {10.0.0.0/8} or method in {GET} and path ~ "/a";`

func TestOrderOfOrder(t *testing.T) {
	p := program(t, better)
	for _, x := range []struct {
		order []int
		nodes int
	}{{[]int{0, 1, 2, 3, 4, 5}, 10}, {[]int{5, 0, 1, 2, 3, 4}, 8}, {[]int{5, 4, 0, 1, 2, 3}, 6}, {[]int{5, 4, 0, 1, 2, 3}, 6}} {
		if !slices.Equal(p.Order, x.order) || len(p.Nodes) != x.nodes {
			t.Errorf("%v, %d nodes; want %v, %d", p.Order, len(p.Nodes), x.order, x.nodes)
		}
		p, _ = wantOrdered(t, p)
	}
}

// Where no order has fewer nodes the program stays as it is.
func TestNothingIsBetter(t *testing.T) {
	for _, sources := range [][]string{
		{""},
		{"", ""},
		{"let x = port in {80} and method in {GET};"},
		{"allow a when true; deny b when false;"},
		{"allow a when port in {80};"},
		{"allow a when port in {80} and method in {GET};"},
		{`allow a when method in {GET} and path ~ "/a"; deny b when addr in {10.0.0.0/8} or has "k";`},
		{"allow a when port in {80} and method in {GET};", "deny b when addr in {10.0.0.0/8};"},
	} {
		p := program(t, sources...)
		wantOrder(t, p, len(p.Nodes), p)
		wantOrder(t, p, api.MaxNodes, p)
		if n := len(p.Nodes); n > 0 {
			wantNoOrder(t, p, n-1, api.ErrNodeLimit)
		}
		back := upTo(len(p.Order))
		slices.Reverse(back)
		q := turned(p, back)
		wantOrder(t, q, len(q.Nodes), q)
	}
}

// What counts are the nodes of all rules together, of both policies.
func TestAllRulesCount(t *testing.T) {
	// Each rule alone is better off with its own pairs side by side.
	one, two := pairs, `deny b when addr in {10.0.0.0/8} and port in {80} or method in {GET} and path ~ "/a";`
	for _, p := range []api.Program{
		program(t, one+two),
		program(t, one, two),
		program(t, two, one),
		program(t, one+"allow c"+one[len("allow a"):]+two),
		program(t, "", one),
		program(t, one, ""),
	} {
		want, _ := wordsOrder(p)
		wantOrder(t, p, len(p.Nodes), want)
		wantNoOrder(t, p, len(p.Nodes)-1, api.ErrNodeLimit)
	}
	both, e := pass.Order(program(t, one, two), api.MaxNodes)
	if e != api.OK || both.Rules[0].Policy != 0 || both.Rules[1].Policy != 1 || both.Rules[0].Effect != api.ItemAllow || both.Rules[1].Effect != api.ItemDeny || both.Rules[0].Name+both.Rules[1].Name != "ab" {
		t.Errorf("%v, error %d", both.Rules, e)
	}
}

// wantOrdered holds Order against the chapter's words; it answers what they gave, and whether that is better than p.
func wantOrdered(t *testing.T, p api.Program) (api.Program, bool) {
	t.Helper()
	want, moved := wordsOrder(p)
	n := len(p.Nodes)
	for _, most := range []int{n, n + 1, api.MaxNodes} {
		wantOrder(t, p, most, want)
	}
	for most := n - 1; most >= 0; most -= 1 + n/3 {
		wantNoOrder(t, p, most, api.ErrNodeLimit)
	}
	if len(want.Nodes) > n || (len(want.Nodes) < n) != (moved > 0) || !lower.Right(want) {
		t.Fatalf("%d levels moved: %s; ahead of it %s", moved, tellRules(want), tellRules(p))
	}
	return want, moved > 0
}

func TestOrderAtRandom(t *testing.T) {
	var lock sync.Mutex
	better, same, two := 0, 0, 0
	inParallel(t, func(t *testing.T, r *rand.Rand) {
		for range 60 {
			p := randomProgram(t, r)
			q, is := wantOrdered(t, p)
			lock.Lock()
			if !is {
				same++
				lock.Unlock()
				continue
			}
			better++
			if p.Rules[0].Policy < p.Rules[len(p.Rules)-1].Policy {
				two++
			}
			lock.Unlock()
			wantOrdered(t, q)
		}
	})
	if better < 80 || same < 80 || two < 30 {
		t.Errorf("%d are better behind it, %d are not; %d of two policies", better, same, two)
	}
}

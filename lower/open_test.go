package lower_test

import (
	"fmt"
	"math"
	"math/rand"
	"slices"
	"strings"
	"testing"

	"lychgate/api"
	"lychgate/arena"
	"lychgate/lower"
)

func wantOpen(t *testing.T, p api.Program, most int) *arena.Arena {
	t.Helper()
	a, roots, e := lower.Open(p, most)
	if e != api.OK || !slices.Equal(roots, rootsOf(p)) {
		t.Fatalf("Open of %d nodes: %v, error %d", most, roots, e)
	}
	wantArena(t, a, sizesOf(p.Space, p.Order), most, p.Nodes)
	return a
}

func wantNotOpen(t *testing.T, want api.Errno, p api.Program, most int) {
	t.Helper()
	if a, roots, e := lower.Open(p, most); a != nil || len(roots) != 0 || e != want {
		t.Errorf("Open of %d nodes: %v, %v, error %d; want error %d", most, a, roots, e, want)
	}
}

func wantClose(t *testing.T, want api.Program, x []api.Attr, order []int, a *arena.Arena, l []api.Ruled) {
	t.Helper()
	nodes, sizes, most := allNodes(t, a), a.Sizes(), a.Most()
	p, e := lower.Close(x, order, a, l)
	if e != api.OK {
		t.Fatalf("Close of %+v: error %d", l, e)
	}
	wantProgram(t, p, want)
	wantArena(t, a, sizes, most, nodes)
	if !lower.Right(p) {
		t.Fatalf("not right: %+v", p)
	}
}

func wantNotClosed(t *testing.T, what string, x []api.Attr, order []int, a *arena.Arena, l []api.Ruled) {
	t.Helper()
	if p, e := lower.Close(x, order, a, l); tell(p) != tell(api.Program{}) || e != api.ErrArg {
		t.Errorf("%s: %+v, error %d", what, p, e)
	}
}

func TestOpen(t *testing.T) {
	p := program(t, chapter)
	for _, most := range []int{3, 4, 100, api.MaxNodes} {
		wantOpen(t, p, most)
	}
	for _, most := range []int{0, 1, 2} {
		wantNotOpen(t, api.ErrNodeLimit, p, most)
	}
	for _, most := range append(farNumbers(), api.MaxNodes+1, math.MaxInt32) {
		wantNotOpen(t, api.ErrArg, p, most)
		wantNotOpen(t, api.ErrArg, program(t, ""), most)
		wantNotOpen(t, api.ErrArg, api.Program{}, most)
	}
	wantOpen(t, program(t, ""), 0)
	wantOpen(t, program(t, "allow a when true;", "deny b when false;"), 0)
	// What is not right is told ahead of that there is no room.
	p.Rules[0].Name = ""
	wantNotOpen(t, api.ErrArg, p, 0)
	wantNotOpen(t, api.ErrArg, p, 2)
	wantNotOpen(t, api.ErrArg, p, 3)
}

// What is opened is worked with like any other arena: nodes that are there are found, others have room up to most.
func TestOpenedIsAnArena(t *testing.T) {
	p := program(t, chapter)
	a := wantOpen(t, p, 4)
	for i, n := range p.Nodes {
		if f, e := a.Make(n.Level, n.Kids); f != i+2 || e != api.OK {
			t.Errorf("%v: %d, error %d", n, f, e)
		}
	}
	if f, e := a.Make(1, []int{1, 0}); f != 5 || e != api.OK {
		t.Errorf("one more: %d, error %d", f, e)
	}
	if _, e := a.Make(1, []int{1, 2}); e != api.ErrNodeLimit {
		t.Errorf("one too many: error %d", e)
	}
}

func TestClose(t *testing.T) {
	p := program(t, chapter)
	a := wantOpen(t, p, 10)
	wantClose(t, p, p.Space, p.Order, a, p.Rules)
	for _, x := range []struct {
		roots []int
		nodes []api.Node
		now   []int
	}{
		{nil, nil, nil},
		{[]int{0}, nil, []int{0}},
		{[]int{1, 0}, nil, []int{1, 0}},
		{[]int{4}, []api.Node{node(1, 0, 1)}, []int{2}},
		{[]int{3}, []api.Node{node(2, 0, 1), node(1, 0, 2)}, []int{3}},
		{[]int{4, 3}, []api.Node{node(1, 0, 1), node(2, 0, 1), node(1, 0, 3)}, []int{2, 4}},
		{[]int{4, 3, 2, 4, 1}, []api.Node{node(1, 0, 1), node(2, 0, 1), node(1, 0, 3)}, []int{2, 4, 3, 2, 1}},
	} {
		var l, now []api.Ruled
		for i, f := range x.roots {
			l = append(l, api.Ruled{Policy: min(1, i/2), Effect: 2 + i%2, Name: fmt.Sprint("n", i), Root: f})
			now = append(now, l[i])
			now[i].Root = x.now[i]
		}
		wantClose(t, api.Program{Space: p.Space, Order: p.Order, Nodes: x.nodes, Rules: now}, p.Space, p.Order, a, l)
	}
}

func TestCloseAtRandom(t *testing.T) {
	r := rand.New(rand.NewSource(29))
	var left, moved, two int
	for range 60 {
		x, order := randomSpace(t, r)
		w := randomWords(r, sizesOf(x, order), 1+r.Intn(4))
		for range 5 {
			l := randomRules(r, w)
			want := wordsClose(x, order, w, l)
			wantClose(t, want, x, order, arenaOf(t, w, len(w.nodes)+r.Intn(2)), l)
			if len(want.Nodes) > 0 && len(want.Nodes) < len(w.nodes) {
				left++
			}
			if len(l) > 0 && l[len(l)-1].Policy > l[0].Policy {
				two++
			}
			if tell(want.Rules) != tell(l) {
				moved++
			}
		}
	}
	if left < 50 || moved < 50 || two < 50 {
		t.Errorf("%d that leave nodes, %d with other roots, %d of two policies", left, moved, two)
	}
}

// A program whose order is another one is laid by the sizes of that.
func TestAnotherOrder(t *testing.T) {
	p := program(t, `allow a when method in {GET} and port in {80} or method in {PUT};`)
	order := []int{2, 0, 1, 3}
	a := newArena(t, []int{3, 1, 2, 1}, 10)
	port, _ := a.Make(2, []int{0, 1})
	root, e := a.Make(0, []int{0, port, 1})
	if e != api.OK {
		t.Fatal(e)
	}
	rules := []api.Ruled{{Effect: api.ItemAllow, Name: "a", Root: root}}
	q, e := lower.Close(p.Space, order, a, rules)
	if e != api.OK || tell(q.Nodes) != tell([]api.Node{node(2, 0, 1), node(0, 0, 2, 1)}) || !slices.Equal(q.Order, order) {
		t.Fatalf("%+v, error %d", q, e)
	}
	wantOpen(t, q, 2)
	wantNotClosed(t, "an order of other sizes", p.Space, []int{0, 1, 2, 3}, a, rules)
	for _, s := range []string{"GET / 1.2.3.4:80\n\n", "PUT / 1.2.3.4:81\n\n", "GET / 1.2.3.4:81\n\n", "A / 1.2.3.4:80\n\n"} {
		first, _ := lower.Judge(p, 0, asked(t, s))
		if second, e := lower.Judge(q, 0, asked(t, s)); second != first || e != api.OK {
			t.Errorf("%q: %d, error %d; want %d", s, second, e, first)
		}
	}
}

func TestCloseRefusesSpacesAndOrders(t *testing.T) {
	p := program(t, chapter)
	a := wantOpen(t, p, 10)
	wantNotClosed(t, "no space", nil, nil, a, p.Rules)
	wantNotClosed(t, "no space, but an order", nil, p.Order, a, p.Rules)
	wantNotClosed(t, "no order", p.Space, nil, a, p.Rules)
	wantNotClosed(t, "attributes too few", p.Space[:3], []int{0, 1, 2}, newArena(t, []int{1, 2, 2}, 9), nil)
	for _, order := range [][]int{{0, 1, 2}, {0, 1, 2, 3, 4}, {0, 1, 2, 2}, {0, 1, 2, 4}, {-1, 1, 2, 3}, {0, 1, 2, 3, 3}, {1, 0, 2, 3}} {
		wantNotClosed(t, fmt.Sprint(order), p.Space, order, a, p.Rules)
	}
	for _, n := range farNumbers() {
		wantNotClosed(t, fmt.Sprint(n), p.Space, []int{n, 1, 2, 3}, a, p.Rules)
	}
	x := slices.Clone(p.Space)
	x[0].Size = 2
	wantNotClosed(t, "a space that is not right", x, p.Order, a, p.Rules)
	wantNotClosed(t, "a space that is not right, but of the arena's sizes", x, p.Order, newArena(t, []int{2, 2, 2, 1}, 9), nil)
	for _, sizes := range [][]int{{1}, {1, 2, 2}, {1, 2, 2, 2}, {2, 1, 2, 1}, {1, 2, 2, 1, 1}, {1, 2, 3, 1}} {
		wantNotClosed(t, fmt.Sprint(sizes), p.Space, p.Order, newArena(t, sizes, 9), nil)
	}
	wantNotClosed(t, "no arena", p.Space, p.Order, nil, nil)
}

func TestCloseRefusesRules(t *testing.T) {
	p := program(t, chapter)
	a := wantOpen(t, p, 10)
	good := api.Ruled{Effect: api.ItemDeny, Name: "z", Root: 3}
	refuse := func(change func(x *api.Ruled)) {
		t.Helper()
		l := []api.Ruled{good, good, good}
		wantClose(t, wordsClose(p.Space, p.Order, &words{sizes: a.Sizes(), nodes: p.Nodes}, l), p.Space, p.Order, a, l)
		change(&l[2])
		wantNotClosed(t, tell(l), p.Space, p.Order, a, l)
	}
	for _, n := range append(farNumbers(), 2) {
		refuse(func(x *api.Ruled) { x.Policy = n })
	}
	for _, n := range append(farNumbers(), 0, 1, 4) {
		refuse(func(x *api.Ruled) { x.Effect = n })
	}
	for _, n := range append(farNumbers(), 5, 6, 12) {
		refuse(func(x *api.Ruled) { x.Root = n })
	}
	for _, s := range []string{"", "Z", "1", "let", "a b", strings.Repeat("a", 33)} {
		refuse(func(x *api.Ruled) { x.Name = s })
	}
	second := good
	second.Policy = 1
	wantNotClosed(t, "policies fall", p.Space, p.Order, a, []api.Ruled{good, second, good})
	wantNotClosed(t, "policies fall at the end", p.Space, p.Order, a, []api.Ruled{second, second, good})
	// What Back has forgotten the arena has not.
	if e := a.Back(1); e != api.OK {
		t.Fatal(e)
	}
	wantNotClosed(t, "a root that is over", p.Space, p.Order, a, []api.Ruled{good})
	l := slices.Repeat([]api.Ruled{{Effect: api.ItemDeny, Name: "z", Root: 2}}, 201)
	wantNotClosed(t, "201 rules", p.Space, p.Order, a, l)
	q, e := lower.Close(p.Space, p.Order, a, l[:200])
	if e != api.OK || len(q.Rules) != 200 || len(q.Nodes) != 1 || !lower.Right(q) {
		t.Errorf("200 rules: %+v, error %d", q, e)
	}
}

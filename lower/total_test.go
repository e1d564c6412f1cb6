package lower_test

import (
	"math/rand"
	"testing"

	"lychgate/api"
	"lychgate/arena"
	"lychgate/lower"
)

// wordsTotal is L5 by its words: each step is put, and the last one is the answer.
func (w *words) wordsTotal(l []api.Ruled, policy int) int {
	var any [2]table
	for i, effect := range []int{api.ItemDeny, api.ItemAllow} {
		any[i] = make(table, w.points())
		for _, x := range l {
			if x.Policy == policy && x.Effect == effect {
				any[i] = either(any[i], w.says(x.Root))
				w.put(any[i])
			}
		}
	}
	w.put(not(any[0]))
	return w.put(both(any[1], not(any[0])))
}

func wantNoTotal(t *testing.T, want api.Errno, a *arena.Arena, l []api.Ruled, policy int) {
	t.Helper()
	nodes, sizes, most := allNodes(t, a), a.Sizes(), a.Most()
	if f, e := lower.Total(a, l, policy); f != 0 || e != want {
		t.Errorf("Total(%+v, %d): %d, error %d; want error %d", l, policy, f, e, want)
	}
	wantArena(t, a, sizes, most, nodes)
}

func TestExampleOfTotal(t *testing.T) {
	p := program(t, chapter)
	a := wantOpen(t, p, 4)
	if f, e := lower.Total(a, p.Rules, 0); f != 0 || e != api.OK {
		t.Errorf("%d, error %d", f, e)
	}
	// Not of 80 is left; what was made once is there again.
	nodes := append(p.Nodes, node(1, 1, 0))
	wantArena(t, a, []int{1, 2, 2, 1}, 4, nodes)
	if f, e := lower.Total(a, p.Rules, 0); f != 0 || e != api.OK {
		t.Errorf("again: %d, error %d", f, e)
	}
	wantArena(t, a, []int{1, 2, 2, 1}, 4, nodes)
	wantNoTotal(t, api.ErrNodeLimit, wantOpen(t, p, 3), p.Rules, 0)
	for _, r := range []string{"GET / 1.2.3.4:80\n\n", "PUT /a 0.0.0.0:0\nk:v\n\n"} {
		if v, e := lower.Judge(p, 0, asked(t, r)); v != api.Deny || e != api.OK {
			t.Errorf("%q: %d, error %d", r, v, e)
		}
	}
}

func TestTotalOfSomeRules(t *testing.T) {
	p := program(t, chapter)
	for _, x := range []struct {
		rules  []api.Ruled
		policy int
		want   int
	}{
		{nil, 0, 0},
		{p.Rules[:1], 0, 3},
		{p.Rules[:1], 1, 0},
		{p.Rules[:1], -5, 0},
		{p.Rules, 1, 0},
		{[]api.Ruled{{Effect: api.ItemAllow, Root: 1}}, 0, 1},
		{[]api.Ruled{{Effect: api.ItemAllow, Root: 1}, {Effect: api.ItemDeny, Root: 1}}, 0, 0},
		{[]api.Ruled{{Effect: api.ItemDeny, Root: 0}, {Effect: api.ItemAllow, Root: 4}}, 0, 4},
		{[]api.Ruled{{Effect: api.ItemAllow, Root: 2}, {Effect: api.ItemAllow, Root: 2}}, 0, 2},
		// Neither names nor the order of policies are looked at; each policy is asked for itself.
		{[]api.Ruled{{Policy: 9, Effect: api.ItemAllow, Root: 4, Name: "A"}, {Policy: -3, Effect: api.ItemDeny, Root: 1}}, 9, 4},
		{[]api.Ruled{{Policy: 9, Effect: api.ItemAllow, Root: 4}, {Policy: 9, Effect: api.ItemAllow, Root: 3}, {Policy: 0, Effect: api.ItemDeny, Root: 2}}, 9, 4},
	} {
		a := wantOpen(t, p, 3)
		if f, e := lower.Total(a, x.rules, x.policy); f != x.want || e != api.OK || a.Len() != 3 {
			t.Errorf("Total(%+v, %d): %d, error %d, %d nodes; want %d", x.rules, x.policy, f, e, a.Len(), x.want)
		}
	}
}

// What rules that deny are put together to is made ahead of what those that allow are, wherever they stand.
func TestTotalIsMadeInItsOrder(t *testing.T) {
	p := program(t, `allow a when port in {80}; deny b when method in {GET}; allow c when has "k"; deny d when path ~ "/a";`)
	a := wantOpen(t, p, 100)
	f, e := lower.Total(a, p.Rules, 0)
	want := append(p.Nodes[:4:4],
		node(2, 5, 1),  // 6: GET or /a
		node(1, 4, 1),  // 7: 80 or has
		node(3, 1, 0),  // 8: not /a
		node(2, 8, 0),  // 9: neither GET nor /a
		node(3, 4, 0),  // 10: has, not /a
		node(2, 10, 0), // 11: has, neither GET nor /a
		node(1, 11, 9)) // 12
	if f != 12 || e != api.OK {
		t.Errorf("%d, error %d", f, e)
	}
	wantArena(t, a, []int{1, 2, 2, 2, 2}, 100, want)
}

func TestTotalRefuses(t *testing.T) {
	p := program(t, chapter)
	a := wantOpen(t, p, 10)
	for _, n := range append(farNumbers(), 5, 12) {
		wantNoTotal(t, api.ErrArg, a, []api.Ruled{{Effect: api.ItemAllow, Root: 3}, {Effect: api.ItemDeny, Root: n}}, 0)
		wantNoTotal(t, api.ErrArg, a, []api.Ruled{{Effect: api.ItemAllow, Root: n}, {Effect: api.ItemDeny, Root: 4}}, 0)
		// Also of a rule of another policy.
		wantNoTotal(t, api.ErrArg, a, []api.Ruled{{Effect: api.ItemAllow, Root: 3}, {Policy: 1, Effect: api.ItemDeny, Root: n}}, 0)
	}
	for _, n := range append(farNumbers(), 0, 1, 4) {
		wantNoTotal(t, api.ErrArg, a, []api.Ruled{{Effect: api.ItemAllow, Root: 3}, {Effect: n, Root: 4}}, 0)
		wantNoTotal(t, api.ErrArg, a, []api.Ruled{{Policy: 1, Effect: n, Root: 4}}, 0)
	}
	// That is told ahead of that there is no room.
	full := wantOpen(t, p, 3)
	wantNoTotal(t, api.ErrArg, full, append(p.Rules[:2:2], api.Ruled{Policy: 1, Effect: api.ItemDeny, Root: 7}), 0)
	wantNoTotal(t, api.ErrNodeLimit, full, p.Rules, 0)
	if f, e := lower.Total(nil, nil, 0); f != 0 || e != api.ErrArg {
		t.Errorf("no arena: %d, error %d", f, e)
	}
	if f, e := lower.Total(nil, p.Rules, 0); f != 0 || e != api.ErrArg {
		t.Errorf("no arena: %d, error %d", f, e)
	}
}

// At random, with room for all that is made, and for one less.
func TestTotalAtRandom(t *testing.T) {
	r := rand.New(rand.NewSource(31))
	var made, several int
	for range 6000 {
		sizes := [][]int{{2}, {3, 2}, {2, 3, 2}, {1, 4, 2, 2}, {2, 2, 2, 2, 2}}[r.Intn(5)]
		w := randomWords(r, sizes, 1+r.Intn(3))
		l := randomRules(r, w)
		policy := r.Intn(2)
		a := arenaOf(t, w, api.MaxNodes)
		ahead := len(w.nodes)
		want := w.wordsTotal(l, policy)
		if f, e := lower.Total(a, l, policy); f != want || e != api.OK {
			t.Fatalf("%d, error %d; want %d", f, e, want)
		}
		wantArena(t, a, sizes, api.MaxNodes, w.nodes)
		now := *w
		now.nodes = w.nodes[:ahead]
		if f, e := lower.Total(arenaOf(t, &now, len(w.nodes)), l, policy); f != want || e != api.OK {
			t.Fatalf("of just enough: %d, error %d; want %d", f, e, want)
		}
		for most := ahead; most < len(w.nodes); most++ {
			wantNoTotal(t, api.ErrNodeLimit, arenaOf(t, &now, most), l, policy)
		}
		if len(w.nodes) > ahead+3 {
			made++
		}
		if len(l) > 3 && want > 1 {
			several++
		}
	}
	if made < 200 || several < 100 {
		t.Errorf("%d that make more than three nodes, %d of several rules", made, several)
	}
}

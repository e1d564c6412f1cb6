package prune_test

import (
	"fmt"
	"testing"

	"lychgate/api"
	"lychgate/arena"
	"lychgate/lower"
	"lychgate/prune"
	"lychgate/space"
)

// bitOf are the numbers below n that have a bit.
func bitOf(bit, n int) []api.Span {
	var out []api.Span
	for lo := 1 << bit; lo < n; lo += 2 << bit {
		out = append(out, api.Span{Lo: lo, Hi: lo + 1<<bit - 1})
	}
	return out
}

// greatSpace has classes of 64 ports, 256 addresses and 16 methods; ports are asked first.
func greatSpace(t *testing.T) ([]api.Attr, []int) {
	t.Helper()
	var tests []api.Atom
	for bit := range 6 {
		tests = append(tests, api.Atom{Kind: api.CondPort, Spans: bitOf(bit, 64)})
	}
	for bit := range 8 {
		tests = append(tests, api.Atom{Kind: api.CondAddr, Spans: bitOf(bit, 256)})
	}
	for i := range 15 {
		tests = append(tests, api.Atom{Kind: api.CondMethod, Names: []string{fmt.Sprintf("%c", 'A'+i)}})
	}
	x, e := space.Build(tests)
	if e != api.OK {
		t.Fatalf("Build: error %d", e)
	}
	return x, []int{1, 0, 2, 3}
}

// great is a program of just so many nodes: each rule asks for a port, by that for an address, by that for a method.
func great(t *testing.T, nodes int, effects ...int) api.Program {
	t.Helper()
	x, order := greatSpace(t)
	sizes := sizesOf(x, order)
	a, e := arena.New(sizes, api.MaxNodes)
	if e != api.OK {
		t.Fatalf("New: error %d", e)
	}
	made := func(level int, kids []int) int {
		f, e := a.Make(level, kids)
		if e != api.OK {
			t.Fatalf("Make: error %d", e)
		}
		return f
	}
	// An odd factor keeps numbers of 16 bits apart, and what two of them join to is seldom there.
	leaf := func() int {
		kids := make([]int, sizes[2])
		for bit := range kids {
			kids[bit] = (a.Len() + 1) * 40503 >> bit & 1
		}
		return made(2, kids)
	}
	var l []api.Ruled
	for i, effect := range effects {
		end := nodes * (i + 1) / len(effects)
		top := make([]int, sizes[0])
		for port := range top {
			mid := make([]int, sizes[1])
			for at := range mid {
				if a.Len()+2 < end {
					mid[at] = leaf()
				}
			}
			if a.Len()+1 < end {
				top[port] = made(1, mid)
			}
		}
		l = append(l, api.Ruled{Effect: effect, Name: "a", Root: made(0, top)})
	}
	p, e := lower.Close(x, order, a, l)
	if e != api.OK || len(p.Nodes) != nodes {
		t.Fatalf("%d nodes, error %d; want %d", len(p.Nodes), e, nodes)
	}
	return p
}

// Up to the last node that an arena may have.
func TestAsManyNodesAsMayBe(t *testing.T) {
	one := great(t, api.MaxNodes, api.ItemAllow)
	for what, do := range calls() {
		q, e := do(one, api.MaxNodes)
		if e != api.OK {
			t.Fatalf("%s: error %d", what, e)
		}
		wantProgram(t, what, q, one)
		wantRefused(t, what, do, one, api.MaxNodes-1, api.ErrNodeLimit)
	}
	// Rules that don't stand side by side need no room.
	three := great(t, api.MaxNodes, api.ItemAllow, api.ItemDeny, api.ItemAllow)
	q, e := prune.Merge(three, api.MaxNodes)
	if e != api.OK {
		t.Fatalf("Merge: error %d", e)
	}
	wantProgram(t, "Merge", q, three)
	wantRefused(t, "Merge", prune.Merge, three, api.MaxNodes-1, api.ErrNodeLimit)
	// What is made behind Open has no room.
	wantRefused(t, "Dead", prune.Dead, three, api.MaxNodes, api.ErrNodeLimit)
	wantRefused(t, "Merge", prune.Merge, great(t, api.MaxNodes, api.ItemDeny, api.ItemDeny), api.MaxNodes, api.ErrNodeLimit)
}

// Each node more that a program has is one more that the call makes: Not of it.
func TestNotOfGreat(t *testing.T) {
	p := great(t, 3000, api.ItemDeny)
	p.Rules = append(p.Rules, api.Ruled{Effect: api.ItemDeny, Name: "b", Root: p.Rules[0].Root})
	a, _, e := lower.Open(p, api.MaxNodes)
	if e != api.OK {
		t.Fatalf("Open: error %d", e)
	}
	want, e := lower.Close(p.Space, p.Order, a, p.Rules[:1])
	if e != api.OK {
		t.Fatalf("Close: error %d", e)
	}
	q, e := prune.Dead(p, 6000)
	if e != api.OK {
		t.Fatalf("Dead: error %d", e)
	}
	wantProgram(t, "Dead", q, want)
	wantRefused(t, "Dead", prune.Dead, p, 5999, api.ErrNodeLimit)
	q, e = prune.Merge(p, 3000)
	if e != api.OK {
		t.Fatalf("Merge: error %d", e)
	}
	wantProgram(t, "Merge", q, want)
}

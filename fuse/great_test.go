package fuse_test

import (
	"fmt"
	"slices"
	"testing"

	"lychgate/api"
	"lychgate/arena"
	"lychgate/lower"
	"lychgate/space"
)

// bitOf are the numbers below n that have a bit.
func bitOf(bit, n int) []api.Span {
	var out []api.Span
	for lo := 1 << bit; lo < n; lo += 2 << bit {
		out = append(out, api.Span{Lo: lo, Hi: lo + 1<<bit - 1})
	}
	return out
}

// ofBits is a program of as many classes of ports as may be, and rules each of which asks for a bit of these.
func ofBits(t *testing.T, bits ...int) api.Program {
	t.Helper()
	var tests []api.Atom
	for bit := range 8 {
		tests = append(tests, api.Atom{Kind: api.CondPort, Spans: bitOf(bit, 256)})
	}
	x, e := space.Build(tests)
	if e != api.OK || x[1].Size != api.MaxClasses {
		t.Fatalf("Build: error %d", e)
	}
	p := api.Program{Space: x, Order: upTo(4)}
	w := newWords(sizesOf(p))
	for _, bit := range bits {
		s := make(table, api.MaxClasses)
		for n := range s {
			s[n] = n>>bit&1 == 1
		}
		p.Rules = append(p.Rules, api.Ruled{Effect: api.ItemDeny, Name: "n", Root: w.put(s)})
	}
	p.Nodes = w.nodes
	return p
}

// As many classes as may be: none alike, some, all.
func TestAsManyClassesAsMayBe(t *testing.T) {
	for _, bits := range [][]int{{0, 1, 2, 3, 4, 5, 6, 7}, {0, 1, 2, 3, 5, 6, 7}, {1, 2, 3, 4, 5, 6, 7}, {6, 0}, {7}, {3, 3, 3}, {}} {
		mask := 0
		for _, bit := range bits {
			mask |= 1 << bit
		}
		p := ofBits(t, bits...)
		want := make([]int, api.MaxClasses)
		for class := range want {
			want[class] = class & mask
		}
		wantAlike(t, p, 1, want, len(p.Nodes))
		q, made := wordsFuse(t, p)
		wantFused(t, p, q, slices.Max(made))
		own := slices.Compact(slices.Sorted(slices.Values(want)))
		if q.Space[1].Size != len(own) || len(bits) == 8 && tell(q) != tell(p) {
			t.Errorf("%v: %d classes", bits, q.Space[1].Size)
		}
		wantTheorem(t, p, mustFuse(t, p))
	}
}

// As many levels as may be, in an order of their own.
func TestAsManyLevelsAsMayBe(t *testing.T) {
	p := program(t,
		`allow a when has "a" and not has "c" or has "e" and (header "g" ~ "x*" or has "g"); deny s when has "a" and has "g";`,
		`allow a when has "b" or has "d" and has "f"; let x = header "h" ~ "?"; deny b when not (x or has "h");`)
	if len(p.Order) != api.MaxVars {
		t.Fatalf("%d levels", len(p.Order))
	}
	wantByWords(t, p)
	for _, order := range [][]int{{11, 10, 9, 8, 7, 6, 5, 4, 3, 2, 1, 0}, {4, 0, 5, 1, 6, 2, 7, 3, 8, 10, 9, 11}} {
		q := turned(p, order)
		wantTheorem(t, q, mustFuse(t, q))
	}
}

// As many rules as may be, all unlike, or all alike.
func TestAsManyRulesAsMayBe(t *testing.T) {
	rules := func(from, to, by int) string {
		out := ""
		for n := from; n < to; n++ {
			s := fmt.Sprintf("%09b", n*by)
			out += fmt.Sprintf(", %c%s%d %s/%s/%s", "+-"[n&1], "n", n, s[:3], s[3:6], s[6:])
		}
		return out[2:]
	}
	wantByWords(t, ofTables(t, portFirst(), rules(0, 100, 2), rules(100, 200, 2)))
	wantByWords(t, ofTables(t, methodFirst(), rules(0, 200, 1)))
	for _, p := range []api.Program{ofTables(t, portFirst(), rules(0, 100, 0), rules(0, 100, 0)), ofTables(t, portFirst(), "", rules(0, 200, 0))} {
		wantAlike(t, p, 1, []int{0, 0, 0}, 0)
		q, _ := wordsFuse(t, p)
		wantFused(t, p, q, 0)
	}
	// The last one alone tells what is alike.
	p := ofTables(t, portFirst(), rules(0, 100, 0), rules(1, 100, 0)+", +z 011/100/100")
	wantAlike(t, p, 1, []int{0, 1, 1}, 3)
	wantAlike(t, p, 2, []int{0, 1, 1}, 5)
}

// great is a program of just so many nodes: each rule asks for a port, by that for an address, by that for a method. Two addresses each are alike.
func great(t *testing.T, nodes int, effects ...int) api.Program {
	t.Helper()
	var tests []api.Atom
	for bit := range 6 {
		tests = append(tests, api.Atom{Kind: api.CondPort, Spans: bitOf(bit, 64)})
	}
	for bit := range 8 {
		tests = append(tests, api.Atom{Kind: api.CondAddr, Spans: bitOf(bit, 256)})
	}
	for i := range 15 {
		tests = append(tests, api.Atom{Kind: api.CondMethod, Names: []string{fmt.Sprintf("%c", 'A'+i)}})
	}
	x, e := space.Build(tests)
	if e != api.OK {
		t.Fatalf("Build: error %d", e)
	}
	p := api.Program{Space: x, Order: []int{1, 0, 2, 3}}
	sizes := sizesOf(p)
	a, _ := arena.New(sizes, api.MaxNodes)
	made := func(level int, kids []int) int {
		f, e := a.Make(level, kids)
		if e != api.OK {
			t.Fatalf("Make: error %d", e)
		}
		return f
	}
	// An odd factor keeps numbers of 16 bits apart.
	leaf := func() int {
		kids := make([]int, sizes[2])
		for bit := range kids {
			kids[bit] = (a.Len() + 1) * 40503 >> bit & 1
		}
		return made(2, kids)
	}
	var l []api.Ruled
	for i, effect := range effects {
		end := nodes * (i + 1) / len(effects)
		top := make([]int, sizes[0])
		for port := range top {
			mid := make([]int, sizes[1])
			for at := 0; at < len(mid) && a.Len()+2 < end; at += 2 {
				mid[at] = leaf()
				mid[at+1] = mid[at]
			}
			if a.Len()+1 < end {
				top[port] = made(1, mid)
			}
		}
		l = append(l, api.Ruled{Effect: effect, Name: "a", Root: made(0, top)})
	}
	p, e = lower.Close(x, p.Order, a, l)
	if e != api.OK || len(p.Nodes) != nodes {
		t.Fatalf("%d nodes, error %d; want %d", len(p.Nodes), e, nodes)
	}
	return p
}

// Up to the last node that an arena may have.
func TestAsManyNodesAsMayBe(t *testing.T) {
	p := great(t, api.MaxNodes, api.ItemAllow)
	// What is known of the first level is what the root leads to; the path is not asked.
	ports := upTo(64)
	wantAlike(t, p, 1, ports, api.MaxNodes)
	wantAlike(t, p, 3, []int{0}, api.MaxNodes)
	// What is known of an address or of a method has no room.
	for _, attr := range []int{0, 2} {
		wantNotAlike(t, p, attr, api.MaxNodes, api.ErrNodeLimit)
	}
	wantNotFused(t, p, api.MaxNodes, api.ErrNodeLimit)
}

func TestGreat(t *testing.T) {
	pairs := upTo(256)
	for i := range pairs {
		pairs[i] &^= 1
	}
	for _, effects := range [][]int{{api.ItemAllow}, {api.ItemAllow, api.ItemDeny, api.ItemAllow}} {
		p := great(t, 3000, effects...)
		most := 0
		for attr := range p.Space {
			want, made := layersAlike(t, p, attr)
			wantAlike(t, p, attr, want, made)
			if attr == 0 && !slices.Equal(want, pairs) {
				t.Errorf("%v", want)
			}
			most = max(most, made)
		}
		if most < 3128 {
			t.Errorf("%d nodes", most)
		}
		q := mustFuse(t, p)
		wantTheorem(t, p, q)
		wantFused(t, p, q, most)
	}
}

// The last node that an arena may have is made behind Open: each two addresses make one of their own.
func TestFullBehindOpen(t *testing.T) {
	p := great(t, api.MaxNodes-128, api.ItemDeny)
	want, made := layersAlike(t, p, 0)
	if made != api.MaxNodes {
		t.Fatalf("%d nodes", made)
	}
	wantAlike(t, p, 0, want, made)
	wantNotAlike(t, great(t, api.MaxNodes-127, api.ItemDeny), 0, api.MaxNodes, api.ErrNodeLimit)
	// Each method makes a node of each port and one of all, so it is the method alone that has no room.
	wantNotAlike(t, p, 2, api.MaxNodes, api.ErrNodeLimit)
	wantNotFused(t, p, api.MaxNodes, api.ErrNodeLimit)
}

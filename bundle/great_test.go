package bundle_test

import (
	"fmt"
	"math/rand"
	"slices"
	"strings"
	"testing"

	"lychgate/api"
	"lychgate/arena"
	"lychgate/bundle"
	"lychgate/glob"
	"lychgate/lower"
	"lychgate/space"
)

func built(t *testing.T, tests []api.Atom) []api.Attr {
	t.Helper()
	x, e := space.Build(tests)
	if e != api.OK {
		t.Fatalf("Build: error %d", e)
	}
	return x
}

// pattern is a test of the path, or of a header of that name.
func pattern(t *testing.T, name, s string) api.Atom {
	t.Helper()
	l, e, at := glob.Parse(s)
	if e != api.OK {
		t.Fatalf("%q: error %d at %d", s, e, at)
	}
	if name == "" {
		return api.Atom{Kind: api.CondPath, Pieces: l}
	}
	return api.Atom{Kind: api.CondHeader, Name: name, Pieces: l}
}

// wantWhole: an image is right, and goes to its text and back.
func wantWhole(t *testing.T, i api.Image) string {
	t.Helper()
	if !bundle.Right(i) {
		t.Fatal("not right")
	}
	s := encoded(t, i)
	if s != wordsText(i) {
		t.Fatal("another text")
	}
	j, e := bundle.Decode(s)
	if e != api.OK || tell(j) != tell(i) {
		t.Fatalf("Decode: error %d", e)
	}
	return s
}

// Up to twelve attributes, which is as many as two policies ask.
func TestUpToAsManyAttributesAsMayBe(t *testing.T) {
	for n := range 9 {
		sources := []string{"allow a when port in {80};", ""}
		name := func(k int) string { return strings.Repeat(string(rune('a'+k)), 4*n) }
		for k := range n {
			sources[k/4] += fmt.Sprintf("deny d%d when has %q;", k, name(k))
		}
		p := program(t, sources...)
		for k := range p.Rules {
			p.Rules[k].Policy = 0
		}
		i := sealed(t, p)
		if len(i.Space) != 4+n || len(i.Nodes) != n+1 {
			t.Fatalf("%d attributes, %d nodes", len(i.Space), len(i.Nodes))
		}
		wantWhole(t, i)
		wantJudge(t, i, asked(t, "GET / 1.2.3.4:80\n\n"), api.Allow)
		for k := range n {
			wantJudge(t, i, asked(t, "GET / 1.2.3.4:80\n"+name(k)+":\n\n"), api.Deny)
		}
	}
}

// greatSpace has so many classes of addresses and of methods, and of ports and of paths.
func greatSpace(t *testing.T, n, m int) []api.Attr {
	t.Helper()
	letters := "abcdefghijklmnopqrstuvwxyzABCDEFGHIJKLMNOPQRSTUVWXYZ0123456789"
	tests := make([][]api.Atom, 4) // by attributes
	for i := range n - 1 {
		tests[0] = append(tests[0], api.Atom{Kind: api.CondAddr, Spans: []api.Span{{Lo: 2 * i, Hi: 2 * i}}})
		tests[2] = append(tests[2], api.Atom{Kind: api.CondMethod, Names: []string{fmt.Sprintf("%c%c", 'A'+i/26, 'A'+i%26)}})
	}
	for i := range m - 1 {
		tests[1] = append(tests[1], api.Atom{Kind: api.CondPort, Spans: []api.Span{{Lo: 2 * i, Hi: 2 * i}}})
		tests[3] = append(tests[3], pattern(t, "", "/"+letters[i:i+1]))
	}
	var out []api.Attr
	for i, l := range tests {
		out = append(out, built(t, l)[i])
	}
	return out
}

// greatPairs is true where the address has the class of the method, and the port that of the path: (n+1)(m+1) nodes.
func greatPairs(t *testing.T, n, m int) api.Program {
	t.Helper()
	x := greatSpace(t, n, m)
	a, e := arena.New([]int{n, m, n, m}, api.MaxNodes)
	if e != api.OK {
		t.Fatalf("New: error %d", e)
	}
	made := func(level int, kids []int) int {
		f, e := a.Make(level, kids)
		if e != api.OK {
			t.Fatalf("Make: error %d", e)
		}
		return f
	}
	only := func(size, class, f int) []int {
		kids := make([]int, size)
		kids[class] = f
		return kids
	}
	addrs := make([]int, n)
	for i := range addrs {
		ports := make([]int, m)
		for k := range ports {
			ports[k] = made(2, only(n, i, made(3, only(m, k, 1))))
		}
		addrs[i] = made(1, ports)
	}
	p, e := lower.Close(x, upTo(4), a, []api.Ruled{{Effect: api.ItemAllow, Name: "a", Root: made(0, addrs)}})
	if e != api.OK || len(p.Nodes) != (n+1)*(m+1) {
		t.Fatalf("%d nodes, error %d", len(p.Nodes), e)
	}
	return p
}

// Up to the last node that may be, and one more.
func TestAsManyNodesAsMayBe(t *testing.T) {
	n, m := 127, 63
	p := greatPairs(t, n, m)
	wantNotSealed(t, p, api.MaxNodes-1, api.ErrNodeLimit)
	i, e := bundle.Seal(p, api.MaxNodes)
	if e != api.OK || len(i.Nodes) != api.MaxNodes || i.Root != api.MaxNodes+1 || tell(i.Nodes) != tell(p.Nodes) {
		t.Fatalf("%d nodes, error %d", len(i.Nodes), e)
	}
	s := encoded(t, i)
	if s != wordsText(i) {
		t.Fatal("another text")
	}
	j, e := bundle.Decode(s)
	if e != api.OK || tell(j) != tell(i) {
		t.Fatalf("Decode: error %d", e)
	}
	r := rand.New(rand.NewSource(3))
	for range 4 {
		a, b := r.Intn(n), r.Intn(m)
		for k, classes := range [][]int{{a, b, a, b}, {a, b, a, (b + 1) % m}, {a, b, (a + 1) % n, b}} {
			q, e := space.Request(i.Space, classes)
			if e != api.OK {
				t.Fatalf("Request: error %d", e)
			}
			wantJudge(t, j, q, []int{api.Allow, api.Deny, api.Deny}[k])
		}
	}
	// With a node of a header ahead of all: it is right but for that there are too many.
	more := copyOf(i)
	more.Space = append(more.Space, built(t, []api.Atom{{Kind: api.CondHas, Name: "k"}})[4])
	more.Order = []int{4, 0, 1, 2, 3}
	for k := range more.Nodes {
		more.Nodes[k].Level++
	}
	if !bundle.Right(more) {
		t.Fatal("not right, a level lower")
	}
	more.Nodes = append(more.Nodes, node(0, more.Root, 1))
	more.Root++
	if _, e := bundle.Encode(more); e != api.ErrArg || bundle.Right(more) {
		t.Errorf("8193 nodes: error %d", e)
	}
	wantNotJudged(t, more, api.Request{Method: "GET", Path: "/"})
	if _, e := bundle.Decode(wordsText(more)); e != api.ErrBundleForm {
		t.Errorf("8193 nodes: error %d", e)
	}
}

// byBits are tests of a kind that part numbers below 256 into as many classes as may be, all else being of the class of 0: each asks for a bit, of some of the numbers.
func byBits(kind int) []api.Atom {
	var out []api.Atom
	for bit := range 8 {
		a := api.Atom{Kind: kind}
		for k := range 256 {
			switch {
			case k>>bit&1 == 0:
			case kind == api.CondMethod:
				a.Names = append(a.Names, fmt.Sprintf("%c%c", 'A'+k/26, 'A'+k%26))
			default:
				a.Spans = append(a.Spans, api.Span{Lo: 2 * k, Hi: 2 * k}) // no two numbers that are side by side
			}
			if len(a.Names) == api.MaxParts {
				if !slices.ContainsFunc(out, func(b api.Atom) bool { return slices.Equal(a.Names, b.Names) }) {
					out = append(out, a)
				}
				a.Names = nil
			}
		}
		if len(a.Spans) > 0 {
			out = append(out, a)
		}
	}
	return out
}

// manyStates has a header whose automaton has as many states as may be.
func manyStates(t *testing.T) api.Attr {
	t.Helper()
	var tests []api.Atom
	for _, b := range "abc" {
		tests = append(tests, pattern(t, "k", strings.Repeat(string(b), 64)))
	}
	for n := 1; n <= 64; n++ {
		x := built(t, append(tests, pattern(t, "k", strings.Repeat("d", n))))[4]
		if len(x.Auto.Out) == api.MaxStates {
			return x
		}
	}
	t.Fatal("no automaton of so many states")
	return api.Attr{}
}

func TestAsManyClassesAndStatesAsMayBe(t *testing.T) {
	var i api.Image
	for at, l := range [][]api.Atom{byBits(api.CondAddr), byBits(api.CondPort), byBits(api.CondMethod), nil} {
		i.Space = append(i.Space, built(t, l)[at])
		if i.Space[at].Size != []int{256, 256, 256, 1}[at] {
			t.Fatalf("%d classes", i.Space[at].Size)
		}
	}
	i.Space = append(i.Space, manyStates(t))
	i.Order = []int{4, 2, 0, 3, 1}
	kids := func(one func(class int) int) []int {
		var out []int
		for class := range 256 {
			out = append(out, one(class))
		}
		return out
	}
	i.Nodes = []api.Node{
		node(4, kids(func(class int) int { return class / 128 })...),
		node(2, kids(func(class int) int { return []int{0, 2, 1}[class%3] })...),
		node(1, kids(func(class int) int { return []int{3, 3, 3, 2, 1}[class%5] })...),
	}
	i.Root = 4
	wantWhole(t, i)
	r := rand.New(rand.NewSource(5))
	for range 40 {
		q := leastOf(t, r, i.Space)
		wantJudge(t, i, q, wordsJudge(t, i, q))
	}
}

// Texts that are long, but say nothing; and some that say to be much longer than they are.
func TestLongTextsAreRefused(t *testing.T) {
	front := "LYCH\x01\x04\x01\x00"
	row := "\x00\x00\x00\x00\x00\x00"
	for what, s := range map[string]string{
		"noughts":               strings.Repeat("\x00", 1<<20),
		"many rows":             front + by(4, 200000) + strings.Repeat(row, 200000),
		"more rows than told":   front + by(4, 1) + strings.Repeat(row, 200000),
		"fewer rows than told":  front + by(4, 1<<32-1) + strings.Repeat(row, 200000),
		"no row of many":        front + by(4, 1<<32-1),
		"attributes of no kind": "LYCH\x01\xff" + strings.Repeat("\x09\x00", 255) + strings.Repeat("\x00", 1<<18),
		"nodes of no level":     plain() + "\x00\x01\x02\x03" + "\xff\xff" + strings.Repeat("\xff", 65535) + "\x00\x00",
		"nodes of no kids":      plain() + "\x00\x01\x02\x03" + "\xff\xff" + strings.Repeat("\x03\x00\x00", 65535) + "\xff\xff",
		"half of it":            plain(),
	} {
		wantNoImage(t, what, s)
		wantNoImage(t, what+", and the check", checked(s))
	}
}

// A path and a value may be as long as they like.
func TestLongRequests(t *testing.T) {
	i := image(t, `allow a when path ~ "/a/**/z"; deny b when header "k" ~ "**x";`)
	long := strings.Repeat("/a", 1<<18)
	for s, want := range map[string]int{"/z": api.Allow, "/zz": api.Deny} {
		wantJudge(t, i, api.Request{Method: "GET", Path: long + s}, want)
		wantJudge(t, i, api.Request{Method: "GET", Path: "/a/z", Headers: []api.Field{{Name: "k", Value: long + "x"}}}, api.Deny)
	}
}

// As many rules as a program may have.
func TestAsManyRulesAsMayBe(t *testing.T) {
	p := program(t, "allow a when port in {80}; deny b when method in {GET};")
	for len(p.Rules) < 200 {
		p.Rules = append(p.Rules, p.Rules[len(p.Rules)%2])
	}
	want, enough := wordsSeal(p)
	wantSeal(t, p, enough, want)
	p.Rules = append(p.Rules, p.Rules[0])
	wantNotSealed(t, p, api.MaxNodes, api.ErrArg)
}

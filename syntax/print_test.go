package syntax_test

import (
	"math/rand"
	"strings"
	"testing"

	"lychgate/api"
	"lychgate/syntax"
)

// wantPrint: Print says just this of a policy.
func wantPrint(t *testing.T, p api.Policy, want string) {
	t.Helper()
	s, e := syntax.Print(p)
	if s != want || e != api.OK || !syntax.Right(p) {
		t.Fatalf("Print: %s, error %d, right %v, want %s", short(s), e, syntax.Right(p), short(want))
	}
}

func wantNoTree(t *testing.T, what string, p api.Policy) {
	t.Helper()
	if s, e := syntax.Print(p); s != "" || e != api.ErrSyntaxTree || syntax.Right(p) {
		t.Errorf("%s: Print: %s, error %d, right %v", what, short(s), e, syntax.Right(p))
	}
}

func TestPrintOfSources(t *testing.T) {
	for s, want := range map[string]string{
		"": "", "# x\n": "",
		"let a = not (true or b) and port in { 80, 1 - 9 };": "let a=not(true or b)and port in{80,1-9};",
		"let a = a or b and c;":                              "let a=a or b and c;", "let a = (a or b) or c;": "let a=(a or b)or c;", "let a = a or (b or c) or d;": "let a=a or(b or c)or d;", "let a = (a and b) or (c);": "let a=a and b or c;", "let a = a and (b and c);": "let a=a and(b and c);", "let a = (a or b) and (c or d);": "let a=(a or b)and(c or d);",
		"let a = not not a;": "let a=not not a;", "let a = not (not a);": "let a=not not a;", "let a = not ((a) and b);": "let a=not(a and b);", "let a = (not a) and b;": "let a=not a and b;", "let a = not (a) and not (b);": "let a=not a and not b;", "let a = ((((a and b))));": "let a=a and b;", "let a = not (a and (b or c) or d);": "let a=not(a and(b or c)or d);",
		"allow x when addr in {10.0.0.1/32, 10.0.0.0/8};": "allow x when addr in{10.0.0.1,10.0.0.0/8};", "deny y when header \"host\" ~ \"a*\" and has \"x\";": "deny y when header\"host\"~\"a*\"and has\"x\";",
		"deny y when path ~ \"\\\"\\\\\" or method in {GET , A};": "deny y when path~\"\\\"\\\\\"or method in{GET,A};", "let a = port in {80-80,9-5,4294967295};": "let a=port in{80,9-5,4294967295};", "let a = b-; let b = false and not c;": "let a=b-;let b=false and not c;", "allow a when (b); deny c when (d);": "allow a when b;deny c when d;", "allow a when not(b)or true;": "allow a when not b or true;",
	} {
		wantPrint(t, parse(s).policy, want)
	}
}

// Policies by chance, held against what other means lay down.
func TestPrintOfRandomPolicies(t *testing.T) {
	r := rand.New(rand.NewSource(12))
	for range 20000 {
		p := randomPolicy(r)
		want, _ := laid(p, nil)
		if len(want) > 8000 {
			wantNoTree(t, "too long", p)
			continue
		}
		wantPrint(t, p, want)
	}
}

// says: does a source say a policy?
func says(s string, p api.Policy) bool {
	got := parse(s)
	return got.e == api.OK && syntax.Same(got.policy, p)
}

// What Print says can't be made shorter by one byte that is left out, nor by a pair of brackets.
func TestPrintIsShortest(t *testing.T) {
	r := rand.New(rand.NewSource(13))
	for range 400 {
		p := randomPolicy(r)
		s, e := syntax.Print(p)
		if e != api.OK {
			continue
		}
		for i := range s {
			if says(s[:i]+s[i+1:], p) {
				t.Fatalf("%s needs no byte %d", short(s), i)
			}
			if s[i] != '(' {
				continue
			}
			for k := i + 1; k < len(s); k++ {
				if s[k] == ')' && says(s[:i]+" "+s[i+1:k]+" "+s[k+1:], p) {
					t.Fatalf("%s needs no brackets at %d and %d", short(s), i, k)
				}
			}
		}
	}
}

// one is a policy with one rule.
func one(c api.Cond) api.Policy {
	return api.Policy{Items: []api.Item{{Kind: api.ItemAllow, Name: "a", Cond: c}}}
}

// full is a condition that has what all kinds have.
func full() api.Cond {
	return api.Cond{Name: "n", Text: "t", Prefixes: []api.Prefix{{Bits: 0}}, Spans: []api.Span{{Lo: 1, Hi: 2}}, Names: []string{"GET"}, Kids: []api.Cond{{Kind: api.CondTrue}, {Kind: api.CondFalse}}}
}

// bare is a condition of a kind, with what that has, and no more.
func bare(kind int) api.Cond {
	c, f := api.Cond{Kind: kind, At: -7}, full()
	switch kind {
	case api.CondName, api.CondHas:
		c.Name = f.Name
	case api.CondNot:
		c.Kids = f.Kids[:1]
	case api.CondAnd, api.CondOr:
		c.Kids = f.Kids
	case api.CondAddr:
		c.Prefixes = f.Prefixes
	case api.CondPort:
		c.Spans = f.Spans
	case api.CondMethod:
		c.Names = f.Names
	case api.CondPath:
		c.Text = f.Text
	case api.CondHeader:
		c.Name, c.Text = f.Name, f.Text
	}
	return c
}

func TestRightOfEachKind(t *testing.T) {
	for kind, want := range map[int]string{
		1: "true", 2: "false", 3: "n", 4: "not true", 5: "true and false", 6: "true or false", 7: "addr in{0.0.0.0/0}", 8: "port in{1-2}", 9: "method in{GET}", 10: `path~"t"`, 11: `header"n"~"t"`, 12: `has"n"`,
	} {
		wantPrint(t, one(bare(kind)), "allow a when "+want+";")
		for what, add := range map[string]func(c *api.Cond){
			"Name": func(c *api.Cond) { c.Name += "n" }, "Text": func(c *api.Cond) { c.Text += "t" }, "Prefixes": func(c *api.Cond) { c.Prefixes = append(c.Prefixes, api.Prefix{}) },
			"Spans": func(c *api.Cond) { c.Spans = append(c.Spans, api.Span{}) }, "Names": func(c *api.Cond) { c.Names = append(c.Names, "PUT") }, "Kids": func(c *api.Cond) { c.Kids = append(c.Kids, api.Cond{Kind: 1}) },
		} {
			c := bare(kind)
			had := strings.Contains(map[int]string{3: "Name", 5: "Kids", 6: "Kids", 7: "Prefixes", 8: "Spans", 9: "Names", 10: "Text", 11: "Name Text", 12: "Name"}[kind]+" ", what+" ")
			if add(&c); syntax.Right(one(c)) != had {
				t.Errorf("kind %d with more of %s", kind, what)
			}
		}
		empty := bare(kind)
		if empty.Prefixes == nil {
			empty.Prefixes = []api.Prefix{}
		}
		if empty.Spans == nil {
			empty.Spans = []api.Span{}
		}
		if empty.Names == nil {
			empty.Names = []string{}
		}
		if empty.Kids == nil {
			empty.Kids = []api.Cond{}
		}
		wantPrint(t, one(empty), "allow a when "+want+";")
	}
	for _, kind := range []int{0, -1, 13, 14, 1 << 62, -1 << 63} {
		wantNoTree(t, "no such kind", one(api.Cond{Kind: kind}))
		wantNoTree(t, "no such kind of an item", api.Policy{Items: []api.Item{{Kind: kind, Name: "a", Cond: bare(1)}}})
	}
}

func TestRightOfParts(t *testing.T) {
	name := func(s string) api.Cond { return api.Cond{Kind: api.CondName, Name: s} }
	path := func(s string) api.Cond { return api.Cond{Kind: api.CondPath, Text: s} }
	ports := func(lo, hi int) api.Cond { return api.Cond{Kind: api.CondPort, Spans: []api.Span{{Lo: lo, Hi: hi}}} }
	prefix := func(a, b int) api.Cond {
		return api.Cond{Kind: api.CondAddr, Prefixes: []api.Prefix{{Addr: a, Bits: b}}}
	}
	method := func(l ...string) api.Cond { return api.Cond{Kind: api.CondMethod, Names: l} }
	header := func(a, b string) api.Cond { return api.Cond{Kind: api.CondHeader, Name: a, Text: b} }
	for i, c := range []api.Cond{
		name(repeat("a", 32)), name("a-"), path(""), path(repeat("q", 200)), path(repeat(`"`, 200)), header("", ""), header("A B", "[["), {Kind: api.CondHas}, ports(0, 0), ports(api.MaxWord, 0), ports(0, api.MaxWord), ports(65536, 65536), prefix(0, 0), prefix(api.MaxWord, 32), prefix(1<<31, 1), method(repeat("A", 16)), method("A", "Z", "A"),
	} {
		if !syntax.Right(one(c)) {
			t.Errorf("condition %d is right", i)
		}
	}
	for i, c := range []api.Cond{
		name(""), name("let"), name("A"), name("a b"), name(repeat("a", 33)), name("1"), name("(a)"), name("a;"), name("é"), path("\n"), path("\x7f"), path("é"), path(repeat("q", 201)), header("\x00", ""), header("", "\x00"), header(repeat("q", 201), ""), {Kind: api.CondHas, Name: "\t"}, ports(-1, 0), ports(0, -1), ports(1<<32, 1<<32), ports(0, 1<<32), ports(-1<<63, 1<<62), prefix(1, 8), prefix(0, 33), prefix(0, -1), prefix(-1, 32), prefix(1<<32, 32), method(""), method("get"), method("G T"), method(repeat("A", 17)), method("GET,PUT"), method("A1"), method("AéB"), method("GET", ""), method(repeat("A", 1<<20)),
		{Kind: api.CondNot}, {Kind: api.CondAnd}, {Kind: api.CondOr}, {Kind: api.CondAddr}, {Kind: api.CondPort}, {Kind: api.CondMethod}, {Kind: api.CondNot, Kids: []api.Cond{name("")}}, {Kind: api.CondOr, Kids: []api.Cond{name("b")}}, {Kind: api.CondAnd, Kids: []api.Cond{name("b"), name("c"), name("D")}},
	} {
		wantNoTree(t, short(repeat("i", i)), one(c))
	}
	for _, bad := range []string{"", "let", "A", "a b", repeat("a", 33)} {
		wantNoTree(t, bad, api.Policy{Items: []api.Item{{Kind: api.ItemLet, Name: bad, Cond: name("b")}}})
	}
}

// times is a list of the same.
func times[T any](v T, n int) []T {
	var l []T
	for range n {
		l = append(l, v)
	}
	return l
}

func deep(c api.Cond, kind, n int) api.Cond {
	for range n {
		kids := []api.Cond{c}
		if kind != api.CondNot {
			kids = append(kids, bare(api.CondTrue))
		}
		c = api.Cond{Kind: kind, Kids: kids}
	}
	return c
}

func TestRightCounts(t *testing.T) {
	for n, want := range map[int]bool{0: false, 1: false, 2: true, 32: true, 33: false, 1 << 14: false} {
		if c := (api.Cond{Kind: api.CondAnd, Kids: times(bare(1), n)}); syntax.Right(one(c)) != want {
			t.Errorf("a row of %d", n)
		}
		if c := (api.Cond{Kind: api.CondOr, Kids: times(bare(5), n)}); syntax.Right(one(c)) != want {
			t.Errorf("a row of %d", n)
		}
	}
	for n, want := range map[int]bool{0: false, 1: true, 32: true, 33: false, 1 << 14: false} {
		for _, c := range []api.Cond{{Kind: api.CondAddr, Prefixes: times(api.Prefix{}, n)}, {Kind: api.CondPort, Spans: times(api.Span{}, n)}, {Kind: api.CondMethod, Names: times("A", n)}} {
			if syntax.Right(one(c)) != want {
				t.Errorf("kind %d with %d parts", c.Kind, n)
			}
		}
	}
	for n, want := range map[int]bool{0: true, 1: true, 100: true, 101: false, 1 << 14: false} {
		if p := (api.Policy{Items: times(one(bare(1)).Items[0], n)}); syntax.Right(p) != want {
			t.Errorf("%d items", n)
		}
	}
	for n, want := range map[int]bool{0: true, 15: true, 16: false, 17: false, 1 << 16: false} {
		for _, kind := range []int{api.CondNot, api.CondAnd, api.CondOr} {
			if syntax.Right(one(deep(bare(1), kind, n))) != want {
				t.Errorf("%d of kind %d around one", n, kind)
			}
		}
	}
}

// A policy whose shortest source has just as many bytes as there may be; and one more.
func TestRightCountsBytes(t *testing.T) {
	for _, last := range []string{"q", `"`} {
		p := api.Policy{Items: times(one(api.Cond{Kind: api.CondPath, Text: repeat("q", 200)}).Items[0], 36)} // 221 bytes each, 7956 in all
		for n, want := range map[int]bool{1: true, 22: true, 23: last == "q", 24: false, 25: false} {
			text := repeat("q", n-1) + last // 21 bytes besides
			q := api.Policy{Items: append(times(p.Items[0], 36), one(api.Cond{Kind: api.CondPath, Text: text}).Items[0])}
			if syntax.Right(q) != want {
				t.Errorf("a text of %d bytes, the last one %s: right %v", n, last, !want)
			}
			if s, _ := laid(q, nil); (len(s) <= 8000) != want {
				t.Errorf("the test is wrong: %d bytes", len(s))
			}
		}
	}
}

// A policy may stand for far more bytes than it has: its lists may be the same ones again and again.
func TestRightOfWide(t *testing.T) {
	c := bare(1)
	for range 15 {
		c = api.Cond{Kind: api.CondAnd, Kids: times(c, 32)}
	}
	wantNoTree(t, "wide", one(c))
	c.Kids = []api.Cond{{Kind: api.CondNot}}
	c.Kids[0].Kids = c.Kids // it has no end
	wantNoTree(t, "endless", one(c.Kids[0]))
}

// spoiled is a policy with one part changed by chance; whether it was in one that counts, Right says.
func spoiled(r *rand.Rand, c api.Cond) api.Cond {
	if len(c.Kids) > 0 && r.Intn(3) > 0 {
		c.Kids = append([]api.Cond(nil), c.Kids...)
		i := r.Intn(len(c.Kids))
		c.Kids[i] = spoiled(r, c.Kids[i])
		return c
	}
	switch r.Intn(8) {
	case 0:
		c.Kind = r.Intn(16) - 1
	case 1:
		c.Name = pick(r, "", "a", "in", "A", "\n", repeat("t", 201))
	case 2:
		c.Text = pick(r, "", "a", "in", "A", "\n", repeat("t", 201))
	case 3:
		c.Prefixes = [][]api.Prefix{nil, {{}}, {{Addr: 1, Bits: 31}}, times(api.Prefix{Bits: 32}, 33)}[r.Intn(4)]
	case 4:
		c.Spans = [][]api.Span{nil, {{}}, {{Lo: -1}}, {{Hi: 1 << 32}}, {{Lo: 2, Hi: 1}}, times(api.Span{}, 32)}[r.Intn(6)]
	case 5:
		c.Names = [][]string{nil, {"A"}, {"a"}, {""}, {"AB", "C D"}}[r.Intn(5)]
	case 6:
		c.Kids = [][]api.Cond{nil, {{Kind: 1}}, {{Kind: 1}, {Kind: 2}}, {{Kind: 1}, {}}}[r.Intn(4)]
	case 7:
		c.At = r.Intn(100) - 50
	}
	return c
}

// wordsRight: do other means lay a source down that is read as the policy? What is no part of a source makes one that is not.
func wordsRight(p api.Policy) (is bool) {
	defer func() {
		if recover() != nil {
			is = false
		}
	}()
	s, _ := laid(p, nil)
	got := wordsParse(s)
	return got.e == api.OK && syntax.Same(got.policy, p)
}

func TestRightOfSpoiled(t *testing.T) {
	r := rand.New(rand.NewSource(14))
	met := map[bool]int{}
	for range 8000 {
		p := one(spoiled(r, randomCond(r, 3)))
		if p.Items[0].Kind = 1 + r.Intn(3); r.Intn(10) == 0 {
			p.Items[0].Name = pick(r, "", "a", "in", "A")
		}
		want := wordsRight(p)
		if met[want]++; syntax.Right(p) != want {
			t.Fatalf("Right(%+v): %v", p, !want)
		}
	}
	if met[true] < 500 || met[false] < 500 {
		t.Errorf("%v", met)
	}
}

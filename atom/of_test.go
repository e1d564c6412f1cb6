package atom_test

import (
	"fmt"
	"math/rand"
	"strings"
	"testing"

	"lychgate/api"
	"lychgate/atom"
)

// checkOf holds Of against the words.
func checkOf(t *testing.T, c api.Cond) {
	t.Helper()
	want, is := wordsOf(c)
	a, e := atom.Of(c)
	if is != (e == api.OK) || !is && e != api.ErrArg || told(a) != told(want) {
		t.Fatalf("Of(%+v): %s, error %d; the words: %s, %t", c, told(a), e, told(want), is)
	}
}

func TestOfExamples(t *testing.T) {
	for s, want := range map[string]api.Atom{
		"addr in {10.0.0.0/8, 11.0.0.0/8, 10.1.0.0/16}": {Kind: api.CondAddr, Spans: []api.Span{{Lo: 167772160, Hi: 201326591}}},
		"addr in {10.0.0.0/7}":                          {Kind: api.CondAddr, Spans: []api.Span{{Lo: 167772160, Hi: 201326591}}},
		"addr in {0.0.0.0/0}":                           {Kind: api.CondAddr, Spans: []api.Span{{Lo: 0, Hi: 4294967295}}},
		"addr in {1.2.3.4, 1.2.3.6}":                    {Kind: api.CondAddr, Spans: []api.Span{{Lo: 16909060, Hi: 16909060}, {Lo: 16909062, Hi: 16909062}}},
		"port in {90, 80-89}":                           {Kind: api.CondPort, Spans: []api.Span{{Lo: 80, Hi: 90}}},
		"port in {0-65535, 7}":                          {Kind: api.CondPort, Spans: []api.Span{{Lo: 0, Hi: 65535}}},
		"port in {9, 7}":                                {Kind: api.CondPort, Spans: []api.Span{{Lo: 7, Hi: 7}, {Lo: 9, Hi: 9}}},
		"method in {PUT, GET, PUT}":                     {Kind: api.CondMethod, Names: []string{"GET", "PUT"}},
		"method in {B, AB, A}":                          {Kind: api.CondMethod, Names: []string{"A", "AB", "B"}},
		`path ~ "/a*"`:                                  {Kind: api.CondPath, Pieces: []api.Piece{{Kind: api.PieceByte, B: '/'}, {Kind: api.PieceByte, B: 'a'}, {Kind: api.PieceStar}}},
		`path ~ ""`:                                     {Kind: api.CondPath},
		`header "x-y" ~ "[!a-c]"`:                       {Kind: api.CondHeader, Name: "x-y", Pieces: []api.Piece{{Kind: api.PieceSet, Not: true, Set: []api.Span{{Lo: 97, Hi: 99}}}}},
		`has "x-y"`:                                     {Kind: api.CondHas, Name: "x-y"},
	} {
		if a, e := atom.Of(cond(t, s)); e != api.OK || told(a) != told(want) {
			t.Errorf("%s: %s, error %d", s, told(a), e)
		}
	}
}

func TestOfRefusesWhatSourcesSay(t *testing.T) {
	for _, s := range []string{`has "X-Y"`, `has ""`, `has "a b"`, `has "a_b"`, `header "K" ~ "*"`, `header "" ~ "*"`, "port in {9-5}", "port in {1, 9-5}", "port in {65536}", "port in {1-65536, 2}", `path ~ "["`, `header "k" ~ "["`, "true", "false", "a", "not has \"a\"", `has "a" and has "b"`, `has "a" or has "b"`} {
		c := cond(t, s)
		if a, e := atom.Of(c); e != api.ErrArg || told(a) != told(api.Atom{}) {
			t.Errorf("%s: %s, error %d", s, told(a), e)
		}
		checkOf(t, c)
	}
}

// edges are conditions just at the limits, and just beyond them.
func edges() []api.Cond {
	var l []api.Cond
	for _, n := range []int{0, 1, 31, 32, 33, 100} {
		l = append(l,
			api.Cond{Kind: api.CondAddr, Prefixes: make([]api.Prefix, n)},
			api.Cond{Kind: api.CondPort, Spans: make([]api.Span, n)},
			api.Cond{Kind: api.CondMethod, Names: distinct(n)},
			api.Cond{Kind: api.CondMethod, Names: strings.Fields(strings.Repeat("GET ", n))},
			api.Cond{Kind: api.CondHas, Name: strings.Repeat("a", n)},
			api.Cond{Kind: api.CondHeader, Name: strings.Repeat("a", n)})
	}
	for _, n := range []int{15, 16, 17} {
		l = append(l, api.Cond{Kind: api.CondMethod, Names: []string{"A", strings.Repeat("A", n)}})
	}
	for _, n := range []int{63, 64, 65, 199, 200, 201} {
		for _, s := range []string{strings.Repeat("a", n), strings.Repeat("*", n), "[" + strings.Repeat("a", n-2) + "]"} {
			l = append(l, api.Cond{Kind: api.CondPath, Text: s}, api.Cond{Kind: api.CondHeader, Name: "a", Text: s})
		}
	}
	for _, n := range []int{-1 << 63, -1, 0, 1, 65535, 65536, 1<<32 - 1, 1 << 32, 1<<63 - 1} {
		for _, m := range []int{-1 << 63, -1, 0, 1, 65535, 65536, 1<<32 - 1, 1 << 32, 1<<63 - 1} {
			l = append(l, api.Cond{Kind: api.CondPort, Spans: []api.Span{{Lo: n, Hi: m}}}, api.Cond{Kind: api.CondPort, Spans: []api.Span{{}, {Lo: n, Hi: m}}})
		}
		for bits := -1; bits <= 34; bits++ {
			l = append(l, api.Cond{Kind: api.CondAddr, Prefixes: []api.Prefix{{Addr: n, Bits: bits}}})
		}
	}
	return l
}

// distinct are so many methods, the last one first.
func distinct(n int) []string {
	var l []string
	for i := range n {
		l = append(l, fmt.Sprintf("%c%c", 'Z'-i/26, 'Z'-i%26))
	}
	return l
}

func TestOfEdges(t *testing.T) {
	for _, c := range edges() {
		checkOf(t, c)
	}
}

// Each byte is tried in a method, in a name and in a pattern: alone, first and last.
func TestOfBytes(t *testing.T) {
	for b := range 256 {
		s := string([]byte{byte(b)})
		for _, s := range []string{s, s + "A", "A" + s, s + "a", "a" + s, "a" + s + "a", "A" + s + "A"} {
			checkOf(t, api.Cond{Kind: api.CondMethod, Names: []string{s}})
			checkOf(t, api.Cond{Kind: api.CondHas, Name: s})
			checkOf(t, api.Cond{Kind: api.CondHeader, Name: s, Text: "a"})
			checkOf(t, api.Cond{Kind: api.CondHeader, Name: "a", Text: s})
			checkOf(t, api.Cond{Kind: api.CondPath, Text: s})
		}
	}
}

// Of each kind, one that there is or not, conditions with each choice of parts.
func TestOfKindsAndParts(t *testing.T) {
	for _, kind := range []int{-1 << 63, -1, 0, 1, 2, 3, 4, 5, 6, 7, 8, 9, 10, 11, 12, 13, 255, 256 + 7, 1<<63 - 1} {
		for has := range 64 {
			c := api.Cond{Kind: kind}
			if has&1 > 0 {
				c.Name = "a"
			}
			if has&2 > 0 {
				c.Text = "a"
			}
			if has&4 > 0 {
				c.Prefixes = []api.Prefix{{}}
			}
			if has&8 > 0 {
				c.Spans = []api.Span{{}}
			}
			if has&16 > 0 {
				c.Names = []string{"A"}
			}
			if has&32 > 0 {
				c.Kids = []api.Cond{{Kind: api.CondTrue}}
			}
			checkOf(t, c)
		}
	}
}

func TestOfByChance(t *testing.T) {
	r := rand.New(rand.NewSource(1))
	for range 20000 {
		c := randomCond(r)
		if _, is := wordsOf(c); !is {
			t.Fatalf("%+v is no atomic condition", c)
		}
		checkOf(t, c)
		checkOf(t, spoiled(r, c))
	}
}

// spoiled is a condition with something else in it.
func spoiled(r *rand.Rand, c api.Cond) api.Cond {
	switch r.Intn(9) {
	case 0:
		c.Kind = r.Intn(16) - 1
	case 1:
		c.Name += pick(r, "", "A", "_", "é", " ")
	case 2:
		c.Text += pick(r, "[", "\\", "\n", "\x7f", "a")
	case 3:
		c.Prefixes = append(c.Prefixes[:len(c.Prefixes):len(c.Prefixes)], api.Prefix{Addr: r.Intn(3) - 1, Bits: r.Intn(35) - 1})
	case 4:
		c.Spans = append(c.Spans[:len(c.Spans):len(c.Spans)], api.Span{Lo: r.Intn(65538) - 1, Hi: r.Intn(65538) - 1})
	case 5:
		c.Names = append(c.Names[:len(c.Names):len(c.Names)], pick(r, "", "a", "GET ", "ABCDEFGHIJKLMNOPQ", "X"))
	case 6:
		c.Kids = []api.Cond{{Kind: api.CondTrue}}
	case 7:
		c.Prefixes, c.Spans, c.Names, c.Name = nil, nil, nil, ""
	}
	return c
}

// A condition that goes down as far as one likes is refused, too.
func TestOfIsNotDisturbedByDepth(t *testing.T) {
	c := api.Cond{Kind: api.CondHas, Name: "a"}
	for range 1 << 16 {
		c = api.Cond{Kind: api.CondNot, Kids: []api.Cond{c}}
	}
	checkOf(t, c)
	c.Kind = api.CondPort
	checkOf(t, c)
}

func TestWhereConditionsStandDoesNotMatter(t *testing.T) {
	for _, at := range []int{-1 << 63, -1, 0, 1, 8000, 1<<63 - 1} {
		checkOf(t, api.Cond{Kind: api.CondHas, Name: "a", At: at})
	}
}

package atom_test

import (
	"fmt"
	"math/rand"
	"slices"
	"strconv"
	"testing"
	"unsafe"

	"lychgate/api"
	"lychgate/atom"
)

// fill writes over all of a list, spare room too.
func fill[T any](l []T, v T) {
	l = l[:cap(l)]
	for i := range l {
		l[i] = v
	}
}

// spoil writes over all lists of a test.
func spoil(a api.Atom) {
	fill(a.Spans, api.Span{Lo: -9})
	fill(a.Names, "mark")
	for _, p := range a.Pieces[:cap(a.Pieces)] {
		fill(p.Set, api.Span{Lo: -9})
	}
	fill(a.Pieces, api.Piece{Kind: -9})
}

const each = `allow x when addr in {1.2.3.4, 10.0.0.0/8} or port in {80, 1-9} or method in {PUT, GET, GET} or path ~ "/[ab][!c]*" or header "host" ~ "[x]" or has "key" or header "hosts" ~ "[x]";`

func TestTestsAreNewMemory(t *testing.T) {
	p := policy(t, each)
	before := fmt.Sprintf("%+v", p)
	for _, c := range p.Items[0].Cond.Kids {
		first, _ := atom.Of(c)
		second, _ := atom.Of(c)
		want := told(second)
		spoil(first)
		third, _ := atom.Of(c)
		if told(second) != want || told(third) != want || fmt.Sprintf("%+v", p) != before {
			t.Errorf("%s shares memory", want)
		}
	}
	one, _ := atom.All([]api.Policy{p, p})
	two, _ := atom.All([]api.Policy{p, p})
	want := toldAll(two)
	for i, a := range one {
		rest := toldAll(one[i+1:])
		spoil(a)
		if toldAll(one[i+1:]) != rest {
			t.Errorf("tests of one answer share memory with test %d", i)
		}
	}
	fill(one, api.Atom{Kind: -9})
	three, _ := atom.All([]api.Policy{p, p})
	if toldAll(two) != want || toldAll(three) != want || fmt.Sprintf("%+v", p) != before {
		t.Error("answers of All share memory")
	}
}

// share: do two texts lie in the same memory?
func share(s, t string) bool {
	return s != "" && t != "" && unsafe.StringData(s) == unsafe.StringData(t)
}

func TestTextsAreNewMemory(t *testing.T) {
	p := policy(t, each)
	look := func(c api.Cond, a api.Atom) {
		if share(c.Name, a.Name) {
			t.Errorf("%q is the condition's own", a.Name)
		}
		for _, s := range a.Names {
			for _, u := range c.Names {
				if share(s, u) {
					t.Errorf("%q is the condition's own", s)
				}
			}
		}
	}
	all, _ := atom.All([]api.Policy{p})
	for i, c := range p.Items[0].Cond.Kids {
		a, _ := atom.Of(c)
		look(c, a)
		look(c, all[i])
	}
}

func withRoom[T any](l []T, mark T) []T {
	return append(slices.Clone(l), mark)[:len(l)]
}

// roomy is a condition whose lists have spare room, with marks in it.
func roomy(c api.Cond) api.Cond {
	c.Prefixes, c.Spans, c.Names = withRoom(c.Prefixes, api.Prefix{Addr: 77}), withRoom(c.Spans, api.Span{Lo: 77}), withRoom(c.Names, "room")
	var kids []api.Cond
	for _, kid := range c.Kids {
		kids = append(kids, roomy(kid))
	}
	c.Kids = withRoom(kids, api.Cond{Kind: 77})
	return c
}

// whole tells all of a condition, its spare room too.
func whole(c api.Cond) string {
	s := fmt.Sprint(c.Kind, c.Name, c.Text, c.At, c.Prefixes[:cap(c.Prefixes)], c.Spans[:cap(c.Spans)], c.Names[:cap(c.Names)])
	for _, kid := range c.Kids {
		s += whole(kid)
	}
	return s + fmt.Sprint(c.Kids[:cap(c.Kids)])
}

func TestConditionsAreNotWrittenInto(t *testing.T) {
	r := rand.New(rand.NewSource(11))
	for range 1000 {
		c := roomy(spoiled(r, randomCond(r)))
		tree := roomy(randomTree(r, 4))
		p := api.Policy{Items: withRoom([]api.Item{{Kind: api.ItemLet, Name: "a", Cond: c}, {Kind: api.ItemDeny, Name: "b", Cond: tree}}, api.Item{Kind: 77})}
		l := withRoom([]api.Policy{p, p}, api.Policy{Items: []api.Item{{Kind: 77}}})
		tell := func() string {
			return whole(c) + whole(tree) + fmt.Sprint(p.Items[:cap(p.Items)], l[:cap(l)])
		}
		before := tell()
		atom.Of(c)
		atom.All(l)
		if tell() != before {
			t.Fatal("a condition was written into")
		}
	}
}

func TestTestsAreNotWrittenInto(t *testing.T) {
	r := rand.New(rand.NewSource(12))
	for range 1000 {
		a, _ := wordsOf(randomCond(r))
		a = changed(r, a)
		a.Spans, a.Names = withRoom(a.Spans, api.Span{Lo: 77}), withRoom(a.Names, "room")
		a.Pieces = withRoom(a.Pieces, api.Piece{Kind: 77})
		for i := range a.Pieces {
			a.Pieces[i].Set = withRoom(a.Pieces[i].Set, api.Span{Lo: 77})
		}
		q := randomRequest(r)
		q.Headers = withRoom(q.Headers, api.Field{Name: "room"})
		tell := func() string {
			s := told(a) + fmt.Sprint(a.Spans[:cap(a.Spans)], a.Names[:cap(a.Names)], a.Pieces[:cap(a.Pieces)], q, q.Headers[:cap(q.Headers)])
			for _, p := range a.Pieces {
				s += fmt.Sprint(p.Set[:cap(p.Set)])
			}
			return s
		}
		before := tell()
		atom.Right(a)
		atom.Same(a, a)
		atom.Test(a, q)
		if tell() != before {
			t.Fatal("a test was written into")
		}
	}
}

// Calls at the same time do not disturb one another, on the same things too.
func TestCallsAtTheSameTime(t *testing.T) {
	shared := policy(t, each)
	for seed := range 8 {
		t.Run(strconv.Itoa(seed), func(t *testing.T) {
			t.Parallel()
			r := rand.New(rand.NewSource(int64(seed)))
			for range 100 {
				checkOf(t, randomCond(r))
				checkTest(t, randomCond(r), randomRequest(r))
				checkAll(t, []api.Policy{randomPolicy(r), shared})
				checkTest(t, shared.Items[0].Cond.Kids[r.Intn(7)], randomRequest(r))
			}
		})
	}
}

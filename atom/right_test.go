package atom_test

import (
	"math/rand"
	"slices"
	"strings"
	"testing"

	"lychgate/api"
	"lychgate/atom"
)

func checkRight(t *testing.T, a api.Atom) {
	t.Helper()
	if atom.Right(a) != wordsRight(a) {
		t.Fatalf("Right(%s): %t", told(a), atom.Right(a))
	}
}

func TestRightOnes(t *testing.T) {
	for _, a := range []api.Atom{
		{Kind: api.CondAddr, Spans: []api.Span{{Lo: 1, Hi: 5}}},
		{Kind: api.CondAddr, Spans: []api.Span{{Lo: 0, Hi: 1<<32 - 1}}},
		{Kind: api.CondAddr, Spans: []api.Span{{Lo: 1, Hi: 5}, {Lo: 7, Hi: 7}}, Names: []string{}, Pieces: []api.Piece{}},
		{Kind: api.CondPort, Spans: []api.Span{{Lo: 65535, Hi: 65535}}},
		{Kind: api.CondPort, Spans: []api.Span{{Lo: 0, Hi: 0}, {Lo: 2, Hi: 65535}}},
		{Kind: api.CondMethod, Names: []string{"A", "AB", "B"}},
		{Kind: api.CondMethod, Names: slices.Sorted(slices.Values(distinct(32)))},
		{Kind: api.CondPath},
		{Kind: api.CondPath, Pieces: []api.Piece{{Kind: api.PieceDeep}, {Kind: api.PieceStar}}},
		{Kind: api.CondHeader, Name: "a"},
		{Kind: api.CondHeader, Name: "0-z", Pieces: make64(api.Piece{Kind: api.PieceAny})},
		{Kind: api.CondHas, Name: strings.Repeat("-", 32)},
	} {
		if !atom.Right(a) || !wordsRight(a) {
			t.Errorf("Right(%s): %t", told(a), atom.Right(a))
		}
	}
}

func make64(p api.Piece) []api.Piece {
	return slices.Repeat([]api.Piece{p}, 64)
}

func TestWrongOnes(t *testing.T) {
	for _, a := range []api.Atom{
		{},
		{Kind: api.CondTrue}, {Kind: api.CondOr}, {Kind: 13, Name: "a"}, {Kind: -1}, {Kind: 1<<63 - 1}, {Kind: -1 << 63},
		{Kind: api.CondAddr},
		{Kind: api.CondAddr, Spans: []api.Span{{Lo: 1, Hi: 2}, {Lo: 3, Hi: 4}}},
		{Kind: api.CondAddr, Spans: []api.Span{{Lo: 0, Hi: 1 << 32}}},
		{Kind: api.CondAddr, Spans: []api.Span{{Lo: -1, Hi: 0}}},
		{Kind: api.CondAddr, Spans: []api.Span{{Lo: 2, Hi: 1}}},
		{Kind: api.CondPort},
		{Kind: api.CondPort, Spans: []api.Span{{Lo: 0, Hi: 65536}}},
		{Kind: api.CondPort, Spans: []api.Span{{Lo: 0, Hi: 5}, {Lo: 65536, Hi: 65537}}},
		{Kind: api.CondPort, Spans: []api.Span{{Lo: 7, Hi: 8}, {Lo: 1, Hi: 2}}},
		{Kind: api.CondMethod},
		{Kind: api.CondMethod, Names: []string{""}},
		{Kind: api.CondMethod, Names: []string{"PUT", "GET"}},
		{Kind: api.CondMethod, Names: []string{"GET", "GET"}},
		{Kind: api.CondMethod, Names: []string{strings.Repeat("A", 17)}},
		{Kind: api.CondMethod, Names: []string{"GET", "get"}},
		{Kind: api.CondMethod, Names: slices.Sorted(slices.Values(distinct(33)))},
		{Kind: api.CondPath, Pieces: []api.Piece{{Kind: 9}}},
		{Kind: api.CondPath, Pieces: []api.Piece{{Kind: api.PieceStar}, {Kind: api.PieceDeep}}},
		{Kind: api.CondPath, Pieces: append(make64(api.Piece{Kind: api.PieceAny}), api.Piece{Kind: api.PieceAny})},
		{Kind: api.CondHeader, Name: "a", Pieces: []api.Piece{{Kind: api.PieceByte, B: 31}}},
		{Kind: api.CondHeader}, {Kind: api.CondHeader, Name: "A"}, {Kind: api.CondHeader, Name: strings.Repeat("a", 33)},
		{Kind: api.CondHas}, {Kind: api.CondHas, Name: "a_"}, {Kind: api.CondHas, Name: strings.Repeat("a", 33)}, {Kind: api.CondHas, Name: "é"},
	} {
		if atom.Right(a) || wordsRight(a) {
			t.Errorf("Right(%s): %t", told(a), atom.Right(a))
		}
	}
}

// Of each kind, one that there is or not, tests with each choice of parts.
func TestRightKindsAndParts(t *testing.T) {
	for _, kind := range []int{-1 << 63, -7, 0, 1, 2, 3, 4, 5, 6, 7, 8, 9, 10, 11, 12, 13, 256 + 7, 1<<63 - 1} {
		for has := range 16 {
			a := api.Atom{Kind: kind}
			if has&1 > 0 {
				a.Name = "a"
			}
			if has&2 > 0 {
				a.Spans = []api.Span{{}}
			}
			if has&4 > 0 {
				a.Names = []string{"A"}
			}
			if has&8 > 0 {
				a.Pieces = []api.Piece{{Kind: api.PieceAny}}
			}
			checkRight(t, a)
		}
	}
}

func TestRightByChance(t *testing.T) {
	r := rand.New(rand.NewSource(2))
	for range 20000 {
		a, _ := wordsOf(randomCond(r))
		checkRight(t, a)
		checkRight(t, changed(r, a))
		checkRight(t, changed(r, changed(r, a)))
	}
}

// changed is a test with something else in it, that shares nothing with the first one.
func changed(r *rand.Rand, a api.Atom) api.Atom {
	a.Spans, a.Names, a.Pieces = slices.Clone(a.Spans), slices.Clone(a.Names), slices.Clone(a.Pieces)
	switch r.Intn(10) {
	case 0:
		a.Kind += pick(r, -1, 1)
	case 1:
		a.Name = pick(r, "", "A", "a", a.Name+"a", a.Name+"_")
	case 2:
		a.Spans = append(a.Spans, randomSpan(r))
	case 3:
		a.Names = append(a.Names, pick(r, "ZZ", "", "a", randomMethod(r)))
	case 4:
		a.Pieces = append(a.Pieces, pick(r, api.Piece{Kind: api.PieceStar}, api.Piece{Kind: api.PieceByte, B: 'a'}, api.Piece{Kind: api.PieceSet}, api.Piece{Kind: 6}))
	case 5:
		a.Spans, a.Names, a.Pieces = cut(a.Spans), cut(a.Names), cut(a.Pieces)
	case 6:
		if len(a.Spans) > 0 {
			s := &a.Spans[r.Intn(len(a.Spans))]
			*s = pick(r, api.Span{Lo: s.Lo + 1, Hi: s.Hi}, api.Span{Lo: s.Lo, Hi: s.Hi + 1}, api.Span{Lo: s.Lo - 1, Hi: s.Hi}, api.Span{Lo: s.Lo, Hi: s.Lo})
		}
	case 7:
		if len(a.Names) > 0 {
			a.Names[r.Intn(len(a.Names))] = randomMethod(r)
		}
	case 8:
		if len(a.Pieces) > 0 {
			p := &a.Pieces[r.Intn(len(a.Pieces))]
			*p = pick(r, api.Piece{Kind: p.Kind + 1, B: p.B, Not: p.Not, Set: p.Set}, api.Piece{Kind: p.Kind, B: p.B + 1, Not: p.Not, Set: p.Set}, api.Piece{Kind: p.Kind, B: p.B, Not: !p.Not, Set: p.Set}, api.Piece{Kind: p.Kind, B: p.B, Not: p.Not, Set: append(slices.Clone(p.Set), api.Span{Lo: 126, Hi: 126})})
		}
	}
	return a
}

func cut[T any](l []T) []T {
	return l[:max(0, len(l)-1)]
}

func checkSame(t *testing.T, a, b api.Atom) {
	t.Helper()
	want := told(a) == told(b)
	if atom.Same(a, b) != want || atom.Same(b, a) != want {
		t.Fatalf("Same of %s and %s: %t", told(a), told(b), atom.Same(a, b))
	}
}

// Each part counts, of tests that are right and of any others.
func TestSameEachPart(t *testing.T) {
	set := []api.Span{{Lo: 97, Hi: 98}}
	full := func() api.Atom {
		return api.Atom{Kind: 77, Name: "b", Spans: []api.Span{{Lo: 9, Hi: -9}, {}}, Names: []string{"x", ""}, Pieces: []api.Piece{{Kind: -5, B: 300, Not: true, Set: set}, {}}}
	}
	for i, change := range []func(a *api.Atom){
		func(a *api.Atom) { a.Kind++ },
		func(a *api.Atom) { a.Name = "B" },
		func(a *api.Atom) { a.Spans[0].Lo++ },
		func(a *api.Atom) { a.Spans[1].Hi++ },
		func(a *api.Atom) { a.Spans = a.Spans[:1] },
		func(a *api.Atom) { a.Names[1] = "y" },
		func(a *api.Atom) { a.Names = a.Names[:1] },
		func(a *api.Atom) { a.Names[0], a.Names[1] = a.Names[1], a.Names[0] },
		func(a *api.Atom) { a.Pieces[1].Kind++ },
		func(a *api.Atom) { a.Pieces[0].B++ },
		func(a *api.Atom) { a.Pieces[0].Not = false },
		func(a *api.Atom) { a.Pieces[0].Set = nil },
		func(a *api.Atom) { a.Pieces[0].Set = []api.Span{{Lo: 97, Hi: 99}} },
		func(a *api.Atom) { a.Pieces = a.Pieces[:1] },
	} {
		a, b := full(), full()
		if !atom.Same(a, b) {
			t.Fatal("a test is not the same as itself")
		}
		change(&b)
		if atom.Same(a, b) || atom.Same(b, a) {
			t.Errorf("change %d is not seen", i)
		}
		checkSame(t, a, b)
	}
	if !atom.Same(api.Atom{}, api.Atom{Spans: []api.Span{}, Names: []string{}, Pieces: []api.Piece{}}) {
		t.Error("lists without elements are the same")
	}
	if !atom.Same(api.Atom{Pieces: []api.Piece{{}}}, api.Atom{Pieces: []api.Piece{{Set: []api.Span{}}}}) {
		t.Error("sets without numbers are the same")
	}
}

func TestSameByChance(t *testing.T) {
	r := rand.New(rand.NewSource(3))
	var ahead api.Atom
	for range 20000 {
		a, _ := wordsOf(randomCond(r))
		checkSame(t, a, ahead)
		checkSame(t, a, changed(r, a))
		ahead = a
	}
}

package auto_test

import (
	"math/rand"
	"slices"
	"strings"
	"testing"

	"lychgate/api"
	"lychgate/auto"
	"lychgate/glob"
)

func TestOfExamples(t *testing.T) {
	for pattern, want := range map[string]api.Auto{
		"a":  {Bytes: columns("a"), Next: []int{1, 2, 1, 1, 1, 1}, Out: []int{0, 0, 1}},
		"":   {Bytes: noughts, Next: []int{1, 1}, Out: []int{1, 0}},
		"**": {Bytes: noughts, Next: []int{0}, Out: []int{1}},
		"*":  {Bytes: columns("/"), Next: []int{0, 1, 1, 1}, Out: []int{1, 0}},
		"?":  {Bytes: columns("/"), Next: []int{1, 2, 2, 2, 2, 2}, Out: []int{0, 1, 0}},
	} {
		if a := of(t, pattern); !same(a, want) {
			t.Errorf("Of %q: %s", pattern, told(a))
		}
	}
}

// setsByWords is how many closed sets of places are come to, or 1000, if these are too many to go on.
func setsByWords(l []api.Piece) int {
	many := func(p api.Piece) bool { return p.Kind == api.PieceStar || p.Kind == api.PieceDeep }
	closed := func(set [65]bool) [65]bool {
		for range l {
			for i, p := range l {
				set[i+1] = set[i+1] || set[i] && many(p)
			}
		}
		return set
	}
	start := closed([65]bool{true})
	met := map[[65]bool]bool{start: true}
	todo := [][65]bool{start}
	for len(todo) > 0 && len(met) < 1000 {
		set := todo[0]
		todo = todo[1:]
		for b := range 256 {
			var to [65]bool
			for i, p := range l {
				takes, _ := glob.Match(l[i:i+1], string([]byte{byte(b)}))
				if set[i] && many(p) && (b != '/' || p.Kind == api.PieceDeep) {
					to[i] = true
				} else if set[i] && !many(p) && takes {
					to[i+1] = true
				}
			}
			if to = closed(to); !met[to] {
				met[to] = true
				todo = append(todo, to)
			}
		}
	}
	return len(met)
}

func wantMatches(t *testing.T, l []api.Piece, a api.Auto, all []string) {
	t.Helper()
	for _, s := range all {
		is, _ := glob.Match(l, s)
		if (labelByWords(a, s) == 1) != is {
			t.Fatalf("Of(%v): %q has the label %d", l, s, labelByWords(a, s))
		}
	}
}

func TestOfAllSmall(t *testing.T) {
	all := texts("\x00/ab\xff", 4)
	pool := []string{"a", "b", "/", "?", "[ab]", "[!a]", "*", "**"}
	for _, n := range texts("\x00\x01\x02\x03\x04\x05\x06\x07", 3) {
		var row []api.Piece
		for i := range len(n) {
			row = append(row, pieces(t, pool[n[i]])...)
		}
		if _, e := glob.Print(row); e != api.OK {
			if a, e := auto.Of(row); e != api.ErrArg || !isEmpty(a) {
				t.Fatalf("Of(%v): error %d", row, e)
			}
			continue
		}
		a, e := auto.Of(row)
		if e != api.OK || !rightByWords(a) || slices.Max(a.Out) > 1 {
			t.Fatalf("Of(%v): %s, error %d", row, told(a), e)
		}
		wantMatches(t, row, a, all)
	}
}

func TestOfEachByte(t *testing.T) {
	every := texts(distinct(), 1)
	for _, pattern := range []string{"?", "[a-c]", "[!a-c]", "[ -~]", "[!!-~]", "[/]", "[!/]", "*", "**", `\*`, " ", "~", "/"} {
		wantMatches(t, pieces(t, pattern), of(t, pattern), every)
	}
}

func TestOfRandom(t *testing.T) {
	r := rand.New(rand.NewSource(4))
	pool := []string{"a", "b", "/", "?", "[ab]", "[!a]", "*", "**", "[a-c]", "c"}
	counts := map[api.Errno]int{}
	for range 150 {
		var b strings.Builder
		for range r.Intn(14) {
			b.WriteString(pool[r.Intn(len(pool))])
		}
		l := pieces(t, b.String())
		a, e := auto.Of(l)
		sets := setsByWords(l)
		counts[e]++
		if (e == api.OK) != (sets <= 256) || e != api.OK && (e != api.ErrNodeLimit || !isEmpty(a)) {
			t.Fatalf("Of(%q): error %d of %d sets", b.String(), e, sets)
		}
		if e != api.OK {
			continue
		}
		if !auto.Right(a) || len(a.Out) > sets {
			t.Fatalf("Of(%q): %s", b.String(), told(a))
		}
		for range 200 {
			s := make([]byte, r.Intn(20))
			for i := range s {
				s[i] = "/abcx"[r.Intn(5)]
			}
			wantMatches(t, l, a, []string{string(s)})
		}
	}
	if counts[api.OK] < 50 {
		t.Errorf("not enough of both: %v", counts)
	}
}

// Patterns that match the same have one automaton.
func TestOfSame(t *testing.T) {
	for _, group := range [][]string{
		{"**", "***", "****", "*****"},
		{"a", "[a]", `\a`},
		{"?*", "*?", "[!/]*", "*[!/]"},
		{"[ab]", "[a-b]", "[ba]"},
		{"*a*", "*[a]*"},
		{"[/]", "[/]*", "[/]**", "a[/]"},
		{"[!/]", "?"},
		{"****a**", "**a***"},
	} {
		first := of(t, group[0])
		for _, pattern := range group {
			if a := of(t, pattern); !same(a, first) {
				t.Errorf("Of %q and of %q: unlike", group[0], pattern)
			}
		}
	}
	if same(of(t, "*a"), of(t, "**a")) || same(of(t, "?"), of(t, "[ -~]")) {
		t.Errorf("patterns that match other texts have the same automaton")
	}
}

func TestOfAtTheLimit(t *testing.T) {
	for _, c := range []struct {
		pattern string
		sets    int
	}{
		{"**a???????", 256},
		{"**a???????/", 257},
		{"*a??????", 129},
		{"*a???????", 257},
		{"x**a???????", 258},
		{"**a????????", 512},
	} {
		l := pieces(t, c.pattern)
		if n := setsByWords(l); n != c.sets {
			t.Fatalf("%q: %d sets", c.pattern, n)
		}
		a, e := auto.Of(l)
		if c.sets <= 256 && (e != api.OK || !auto.Right(a)) {
			t.Errorf("%q: error %d", c.pattern, e)
		}
		if c.sets > 256 && (e != api.ErrNodeLimit || !isEmpty(a)) {
			t.Errorf("%q: error %d", c.pattern, e)
		}
	}
	if a := of(t, "**a???????"); len(a.Out) != 256 {
		t.Errorf("256 sets that are all unlike: %d states", len(a.Out))
	}
}

// The sets count, not the states of the one form: here most of them match all that follows.
func TestOfManySetsOfFewStates(t *testing.T) {
	if a, e := auto.Of(pieces(t, "**a????????**")); e != api.ErrNodeLimit || !isEmpty(a) {
		t.Errorf("error %d", e)
	}
	if n := len(of(t, "**a????**").Out); n >= setsByWords(pieces(t, "**a????**")) {
		t.Errorf("%d states", n)
	}
}

func TestOfLongPatterns(t *testing.T) {
	long := strings.Repeat("a", 64)
	a := of(t, long)
	if len(a.Out) != 66 || labelByWords(a, long) != 1 || labelByWords(a, long[1:]) != 0 || labelByWords(a, long+"a") != 0 {
		t.Errorf("64 letters: %d states", len(a.Out))
	}
	a = of(t, strings.Repeat("a", 63)+"**")
	if len(a.Out) != 65 || labelByWords(a, long+"/x") != 1 || labelByWords(a, long[2:]) != 0 {
		t.Errorf("63 letters and a Deep: %d states", len(a.Out))
	}
	row := slices.Repeat(pieces(t, "a"), 65)
	if a, e := auto.Of(row); e != api.ErrArg || !isEmpty(a) {
		t.Errorf("65 pieces: error %d", e)
	}
	if a, e := auto.Of(slices.Repeat(pieces(t, "**"), 64)); e != api.OK || !same(a, of(t, "**")) {
		t.Errorf("64 Deeps: error %d", e)
	}
}

func TestOfWrongPieces(t *testing.T) {
	star, deep := api.Piece{Kind: api.PieceStar}, api.Piece{Kind: api.PieceDeep}
	for _, l := range [][]api.Piece{
		{{}},
		{{Kind: 6}},
		{{Kind: -1}},
		{{Kind: api.PieceByte, B: 31}},
		{{Kind: api.PieceByte, B: 127}},
		{{Kind: api.PieceByte, B: 'a', Not: true}},
		{{Kind: api.PieceAny, B: 'a'}},
		{{Kind: api.PieceSet}},
		{{Kind: api.PieceSet, Set: []api.Span{{Lo: 'b', Hi: 'a'}}}},
		{{Kind: api.PieceSet, Set: []api.Span{{Lo: 'a', Hi: 'b'}, {Lo: 'c', Hi: 'd'}}}},
		{{Kind: api.PieceSet, Set: []api.Span{{Lo: 0, Hi: 1000}}}},
		{star, star},
		{star, deep},
		{deep, {Kind: 9}},
	} {
		if a, e := auto.Of(l); e != api.ErrArg || !isEmpty(a) {
			t.Errorf("Of(%v): %s, error %d", l, told(a), e)
		}
	}
	if _, e := auto.Of([]api.Piece{deep, star}); e != api.OK {
		t.Errorf("a Star behind a Deep: error %d", e)
	}
	// What is wrong comes ahead of what is too much.
	much := pieces(t, "**a????????????")
	if a, e := auto.Of(append(much, api.Piece{Kind: 9})); e != api.ErrArg || !isEmpty(a) {
		t.Errorf("too many sets and a wrong piece: error %d", e)
	}
}

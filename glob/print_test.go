package glob_test

import (
	"math/rand"
	"slices"
	"strings"
	"testing"

	"lychgate/api"
	"lychgate/glob"
)

func TestPrintOfExamples(t *testing.T) {
	for s, want := range map[string]string{
		"":             "",
		`[a-cx\-]`:     `[\-a-cx]`,
		"***":          "***",
		`\*`:           `\*`,
		`\?\[\\`:       `\?\[\\`,
		`\a\]\-\!`:     "a]-!",
		"[!!]":         `[!\!]`,
		"[a!]":         `[\!a]`,
		"[ab]":         "[a-b]",
		"[c-ea-d]":     "[a-e]",
		"[*?[/]":       "[*/?[]",
		`[\]-\a]`:      `[\]-a]`,
		`[\!-\]]`:      `[\!-\]]`,
		`[\\-\]]`:      `[\\-\]]`,
		"[!a-a]":       "[!a]",
		"/a/*.txt":     "/a/*.txt",
		"**/[!b-c]?*~": "**/[!b-c]?*~",
	} {
		if got := print(t, parse(t, s)); got != want {
			t.Errorf("Print of %q: %q, want %q", s, got, want)
		}
	}
}

func textIn(b int, signs string) string {
	s := string(rune(b))
	if strings.Contains(signs, s) {
		return `\` + s
	}
	return s
}

func TestPrintOfEachByte(t *testing.T) {
	for b := 32; b <= 126; b++ {
		want := textIn(b, `*?[\`)
		if got := print(t, []api.Piece{one(b)}); got != want {
			t.Errorf("Print of the byte %d: %q, want %q", b, got, want)
		}
	}
}

func TestPrintOfEachRange(t *testing.T) {
	for lo := 32; lo <= 126; lo++ {
		for hi := lo; hi <= 126; hi++ {
			want := textIn(lo, `]\-!`)
			if lo != hi {
				want += "-" + textIn(hi, `]\-!`)
			}
			if got := print(t, []api.Piece{set(false, api.Span{Lo: lo, Hi: hi})}); got != "["+want+"]" {
				t.Errorf("Print of the set %d-%d: %q", lo, hi, got)
			}
			if got := print(t, []api.Piece{set(true, api.Span{Lo: lo, Hi: hi})}); got != "[!"+want+"]" {
				t.Errorf("Print of all but %d-%d: %q", lo, hi, got)
			}
		}
	}
}

func TestParseOfPrint(t *testing.T) {
	pieces := []api.Piece{one('a'), one('*'), one('?'), one('['), one('\\'), one(']'), one('!'), one('-'), anyPiece, star, deep}
	for _, s := range smallSets {
		pieces = append(pieces, set(false, s...), set(true, s...))
	}
	count := 0
	eachRow(pieces, 3, func(l []api.Piece) {
		count++
		wantReadBack(t, l)
	})
	if count < 9000 {
		t.Errorf("only %d rows", count)
	}
	r := rand.New(rand.NewSource(4))
	for range 2000 {
		wantReadBack(t, randomPieces(r, r.Intn(65)))
	}
}

func wantReadBack(t *testing.T, l []api.Piece) {
	t.Helper()
	s := print(t, l)
	if got := parse(t, s); !samePieces(got, l) {
		t.Fatalf("Parse of Print of %v, %q: %v", l, s, got)
	}
	if want, ok := readByForms(s); !ok || !samePieces(want, l) {
		t.Fatalf("Print of %v is no text of it: %q", l, s)
	}
}

// What Print says of a text's pieces is one text for all that say the same.
func TestPrintOfParse(t *testing.T) {
	const signs = "*?[]!-\\ab"
	taken := 0
	eachText(signs, 5, func(s string) {
		l, e, _ := glob.Parse(s)
		if e != api.OK {
			return
		}
		taken++
		again := parse(t, print(t, l))
		if !samePieces(again, l) || print(t, again) != print(t, l) {
			t.Fatalf("%q is printed %q", s, print(t, l))
		}
	})
	if taken < 10000 {
		t.Errorf("only %d texts were taken", taken)
	}
}

func TestWrongPieces(t *testing.T) {
	a := []api.Span{{Lo: 'a', Hi: 'a'}}
	wrong := map[string]api.Piece{
		"no kind":             {},
		"a kind below":        {Kind: -1},
		"a kind above":        {Kind: 6},
		"a far kind":          {Kind: 1 << 40},
		"a low byte":          one(31),
		"a high byte":         one(127),
		"no byte":             one(0),
		"a byte below":        one(-1),
		"a far byte":          one('a' + 256),
		"a byte with Not":     {Kind: api.PieceByte, B: 'a', Not: true},
		"a byte with Set":     {Kind: api.PieceByte, B: 'a', Set: a},
		"any with B":          {Kind: api.PieceAny, B: 'a'},
		"any with Not":        {Kind: api.PieceAny, Not: true},
		"any with Set":        {Kind: api.PieceAny, Set: a},
		"star with B":         {Kind: api.PieceStar, B: -1},
		"star with Not":       {Kind: api.PieceStar, Not: true},
		"star with Set":       {Kind: api.PieceStar, Set: a},
		"deep with B":         {Kind: api.PieceDeep, B: 1},
		"deep with Not":       {Kind: api.PieceDeep, Not: true},
		"deep with Set":       {Kind: api.PieceDeep, Set: a},
		"a set with B":        {Kind: api.PieceSet, B: 'a', Set: a},
		"an empty set":        set(false),
		"an empty set, Not":   set(true),
		"a set from below":    set(false, api.Span{Lo: 31, Hi: 40}),
		"a set to above":      set(true, api.Span{Lo: 120, Hi: 127}),
		"a set all above":     set(false, api.Span{Lo: 'a', Hi: 'a'}, api.Span{Lo: 200, Hi: 200}),
		"a set all below":     set(false, api.Span{Lo: 0, Hi: 1}, api.Span{Lo: 'a', Hi: 'a'}),
		"a span upside down":  set(false, api.Span{Lo: 'b', Hi: 'a'}),
		"spans side by side":  set(false, api.Span{Lo: 'a', Hi: 'b'}, api.Span{Lo: 'c', Hi: 'd'}),
		"spans that fall":     set(false, api.Span{Lo: 'x', Hi: 'x'}, api.Span{Lo: 'a', Hi: 'a'}),
		"a wrong span inside": set(false, api.Span{Lo: 'a', Hi: 'a'}, api.Span{Lo: 200, Hi: 2}, api.Span{Lo: 'x', Hi: 'x'}),
	}
	for name, p := range wrong {
		wantWrong(t, name, []api.Piece{p})
		wantWrong(t, name+", behind a byte", []api.Piece{one('a'), p})
		wantWrong(t, name+", ahead of a byte", []api.Piece{p, one('a')})
	}
	wantWrong(t, "two stars", []api.Piece{star, star})
	wantWrong(t, "a star ahead of a deep", []api.Piece{star, deep})
	wantWrong(t, "two stars far behind", []api.Piece{star, one('a'), deep, deep, star, star, one('b')})
	wantWrong(t, "65 pieces", slices.Repeat([]api.Piece{deep}, 65))
	wantWrong(t, "very many pieces", slices.Repeat([]api.Piece{one('a')}, 100000))
}

func wantWrong(t *testing.T, name string, l []api.Piece) {
	t.Helper()
	if s, e := glob.Print(l); s != "" || e != api.ErrArg {
		t.Errorf("Print of %s: %q, error %d", name, s, e)
	}
	for _, s := range []string{"", "a", "aa", "/"} {
		if is, e := glob.Match(l, s); is || e != api.ErrArg {
			t.Errorf("Match of %s: %v, error %d", name, is, e)
		}
	}
}

func TestRightPieces(t *testing.T) {
	for _, l := range [][]api.Piece{
		nil,
		{},
		{deep, star},
		{deep, deep, star, anyPiece, star},
		{star, one('*'), deep},
		{{Kind: api.PieceAny, Set: []api.Span{}}},
		{set(true, api.Span{Lo: 32, Hi: 126})},
		{set(false, api.Span{Lo: 32, Hi: 32}, api.Span{Lo: 126, Hi: 126})},
		slices.Repeat([]api.Piece{deep}, 64),
	} {
		print(t, l)
		match(t, l, "a")
	}
}

package glob_test

import (
	"math/rand"
	"slices"
	"strings"
	"testing"

	"lychgate/api"
)

func TestMatchOfExamples(t *testing.T) {
	for _, c := range []struct {
		pattern string
		yes, no []string
	}{
		{"", []string{""}, []string{"a", "/", "\x00"}},
		{"/a/*.txt", []string{"/a/.txt", "/a/b.txt", "/a/.txt.txt"}, []string{"/a/b/c.txt", "/a/b", "a/.txt", "/a/b.txt/"}},
		{"/a/**", []string{"/a/", "/a/b/c", "/a//"}, []string{"/a", "", "/b/a/"}},
		{"?", []string{"a", "?", "\x00", "\xff", "\n"}, []string{"/", "", "aa"}},
		{"[!b]", []string{"a", "\x00", "\x7f", "\xff"}, []string{"b", "/", "", "aa"}},
		{"[.-0]", []string{".", "0"}, []string{"/", "1"}},
		{"[/]", nil, []string{"/", "a", ""}},
		{"[!/]", []string{"a", "."}, []string{"/"}},
		{"[ -~]", []string{" ", "~", "a"}, []string{"/", "\x1f", "\x7f"}},
		{"[! -~]", []string{"\x1f", "\x7f", "\xff"}, []string{"/", "a", " "}},
		{"/", []string{"/"}, []string{"", "a", "//"}},
		{"*", []string{"", "a", "abc", "\x00\xff"}, []string{"/", "a/b"}},
		{"**", []string{"", "a", "/", "a/b//\xff"}, nil},
		{"***", []string{"", "a/b/", "/"}, nil},
		{"a*b", []string{"ab", "abb", "axb", "aab"}, []string{"a", "b", "a/b", "abx"}},
		{"a**b", []string{"ab", "a/b", "a/b/b"}, []string{"a", "a/b/"}},
		{"*/*", []string{"/", "a/", "/b", "a/b"}, []string{"", "a", "//", "a/b/c"}},
		{"**/*", []string{"/", "//", "a/b/c"}, []string{"", "a"}},
		{"**a**a", []string{"aa", "/a/a", "aaa"}, []string{"a", "aab"}},
	} {
		for _, s := range c.yes {
			if !match(t, parse(t, c.pattern), s) {
				t.Errorf("%q does not match %q", c.pattern, s)
			}
		}
		for _, s := range c.no {
			if match(t, parse(t, c.pattern), s) {
				t.Errorf("%q matches %q", c.pattern, s)
			}
		}
	}
}

func TestMatchOfEachByte(t *testing.T) {
	pieces := []api.Piece{one('a'), one('/'), one(32), one(126), anyPiece, star, deep}
	for _, s := range smallSets {
		pieces = append(pieces, set(false, s...), set(true, s...))
	}
	for _, p := range pieces {
		for b := range 256 {
			s := string([]byte{byte(b)})
			if got := match(t, []api.Piece{p}, s); got != takesPart(p, s) {
				t.Errorf("%v and the byte %d: %v", p, b, got)
			}
		}
	}
}

func TestMatchIsByCuts(t *testing.T) {
	a := api.Span{Lo: 'a', Hi: 'a'}
	pieces := []api.Piece{one('a'), one('/'), anyPiece, set(false, a), set(true, a), star, deep}
	var texts []string
	eachText("ab/\xff", 4, func(s string) { texts = append(texts, s) })
	eachRow(pieces, 4, func(l []api.Piece) {
		for _, s := range texts {
			if got := match(t, l, s); got != matchByCuts(l, s) {
				t.Fatalf("%v and %q: %v", l, s, got)
			}
		}
	})
}

func TestMatchOfTwoRows(t *testing.T) {
	r := rand.New(rand.NewSource(7))
	matched := 0
	for range 4000 {
		l := randomPieces(r, r.Intn(9))
		cut := r.Intn(len(l) + 1)
		s := randomText(r, l)
		want := false
		for n := 0; n <= len(s); n++ {
			want = want || match(t, l[:cut], s[:n]) && match(t, l[cut:], s[n:])
		}
		if got := match(t, l, s); got != want {
			t.Fatalf("%v and %q: %v, but cut at %d %v", l, s, got, cut, want)
		}
		if want {
			matched++
		}
	}
	if matched < 500 || matched > 3500 {
		t.Errorf("%d of 4000 matched: the texts tell little", matched)
	}
}

// randomText is often one that a pattern matches, or nearly.
func randomText(r *rand.Rand, l []api.Piece) string {
	var out []byte
	for _, p := range l {
		for range r.Intn(3) {
			if p.Kind == api.PieceStar || p.Kind == api.PieceDeep {
				out = append(out, "ab/"[r.Intn(3)])
			}
		}
		switch p.Kind {
		case api.PieceByte:
			out = append(out, byte(p.B))
		case api.PieceAny:
			out = append(out, 'a')
		case api.PieceSet:
			out = append(out, byte(p.Set[0].Lo))
			if p.Not {
				out[len(out)-1] = 200
			}
		}
	}
	if len(out) > 0 && r.Intn(4) == 0 {
		out[r.Intn(len(out))] = byte(r.Intn(256))
	}
	return string(out)
}

func TestMatchOf64Pieces(t *testing.T) {
	l := slices.Repeat([]api.Piece{one('a')}, 64)
	for n := range 67 {
		if got := match(t, l, strings.Repeat("a", n)); got != (n == 64) {
			t.Errorf("64 bytes and %d: %v", n, got)
		}
	}
	l[63] = star
	for n := range 67 {
		if got := match(t, l, strings.Repeat("a", n)); got != (n >= 63) {
			t.Errorf("63 bytes, a star and %d: %v", n, got)
		}
	}
	if deeps := slices.Repeat([]api.Piece{deep}, 64); !match(t, deeps, "") || !match(t, deeps, "a/b") {
		t.Error("64 Deeps do not match")
	}
}

// A text of this length could be cut in more ways than can be tried one by one.
func TestMatchEndsOnLongTexts(t *testing.T) {
	var l []api.Piece
	for range 32 {
		l = append(l, deep, one('a'))
	}
	long := strings.Repeat("a", 20000)
	if !match(t, l, long) || match(t, l, long+"b") || match(t, l, strings.Repeat("a", 31)+strings.Repeat("b", 20000)) {
		t.Error("many Deeps and a long text")
	}
	for i := range l {
		if l[i].Kind == api.PieceDeep {
			l[i] = star
		}
	}
	if !match(t, l, long) || match(t, l, long+"/a") {
		t.Error("many Stars and a long text")
	}
}

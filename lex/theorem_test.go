package lex_test

import (
	"math/rand"
	"slices"
	"strings"
	"testing"

	"lychgate/api"
	"lychgate/lex"
)

// withoutPlaces are tokens as if each began at 0.
func withoutPlaces(l []api.Token) []api.Token {
	out := slices.Clone(l)
	for i := range out {
		out[i].At = 0
	}
	return out
}

// Tokens as they stand, with a blank behind each, are the same tokens.
func TestTokensWithBlanksBetween(t *testing.T) {
	r := rand.New(rand.NewSource(4))
	taken := 0
	for range 20000 {
		s := randomSource(r)
		one := scan(s)
		if one.e != api.OK {
			continue
		}
		taken++
		_, pieces := wordsScan(s)
		spaced := ""
		for _, piece := range pieces {
			spaced += piece + " "
		}
		two := scan(spaced)
		if two.e != api.OK || !slices.Equal(withoutPlaces(one.tokens), withoutPlaces(two.tokens)) {
			t.Fatalf("%q: %v; %q: %v", s, one, spaced, two)
		}
	}
	if taken < 5000 {
		t.Errorf("only %d sources were right", taken)
	}
}

// What stands ahead of a fault has none; what stands behind its run or byte changes nothing.
func TestFaultsHangOnWhatIsThere(t *testing.T) {
	r := rand.New(rand.NewSource(5))
	seen := map[api.Errno]int{}
	wrong := []string{"?", "\x80", "é", "_", "01", "1.2.3", "4294967296", "1.2.3.4/8", repeat("a", 33), repeat("M", 17), `"`, `"\n"`, `"` + repeat("q", 201) + `"`}
	for range 20000 {
		s := randomSource(r) + pick(r, " ", "", ";") + pick(r, wrong...) + randomSource(r)
		got := scan(s)
		if got.e == api.OK {
			continue
		}
		seen[got.e]++
		if ahead := scan(s[:got.at]); ahead.e != api.OK {
			t.Fatalf("%q is wrong at %d, but ahead of that: %v", s, got.at, ahead)
		}
		if got.e == api.ErrLexText {
			continue
		}
		_, pieces := wordsScan(s)
		upTo := s[:got.at] + pieces[len(pieces)-1]
		for _, tail := range []string{"", " ", ";", "?", `"`, "\x00", "\xa9", "#", "\n1", "{" + randomSource(r)} {
			if other := scan(upTo + tail); !other.same(got) {
				t.Fatalf("%q: %v; %q: %v", s, got, upTo+tail, other)
			}
		}
	}
	for _, e := range []api.Errno{api.ErrLexByte, api.ErrLexNumber, api.ErrLexName, api.ErrLexText} {
		if seen[e] < 500 {
			t.Errorf("error %d was seen %d times", e, seen[e])
		}
	}
}

func wantOneText(t *testing.T, s string) {
	t.Helper()
	q, e := lex.Quote(s)
	want := []api.Token{{Kind: api.TokenText, Text: s}, {Kind: api.TokenEnd, At: len(q)}}
	if got := scan(q); e != api.OK || !got.same(answer{tokens: want}) {
		t.Fatalf("Quote(%s): %s, error %d; taken apart: %v", short(s), short(q), e, got)
	}
}

func TestScanOfQuoteIsOneText(t *testing.T) {
	eachText(`"\n #`, 5, func(s string) { wantOneText(t, s) })
	r := rand.New(rand.NewSource(6))
	for range 3000 {
		s := make([]byte, r.Intn(201))
		for i := range s {
			s[i] = byte(32 + r.Intn(95))
		}
		wantOneText(t, string(s))
	}
	for _, unit := range []string{"q", `"`, `\`, " ", "~"} {
		wantOneText(t, repeat(unit, 200))
	}
}

// All texts of a source are told by Quote again, as they stood there.
func TestQuoteOfScanIsTheSource(t *testing.T) {
	r := rand.New(rand.NewSource(7))
	for range 3000 {
		s := `"` + randomText(r) + `"`
		tokens, e, _ := lex.Scan(s)
		if e != api.OK {
			t.Fatalf("%q: error %d", s, e)
		}
		if q, e := lex.Quote(tokens[0].Text); q != s || e != api.OK {
			t.Fatalf("%q: Quote is %q, error %d", s, q, e)
		}
	}
}

// A name, a word or a method is one token of its kind, just if the calls say so.
func TestNamesAreTokens(t *testing.T) {
	one := func(s string, kind int) bool {
		return scan(s).same(answer{tokens: []api.Token{{Kind: kind, Text: s}, {Kind: api.TokenEnd, At: len(s)}}})
	}
	check := func(s string) {
		if lex.IsName(s) != one(s, api.TokenName) || lex.IsWord(s) != one(s, api.TokenWord) {
			t.Fatalf("%q: %v, %v, %v", s, lex.IsName(s), lex.IsWord(s), scan(s))
		}
	}
	eachText("az_-09A \n", 4, check)
	for _, w := range strings.Fields(ownWords) {
		for _, s := range []string{w, w + "s", w[1:], w[:len(w)-1], strings.ToUpper(w), w + " ", " " + w, w + "\n", "#" + w} {
			check(s)
		}
	}
	for n := range 40 {
		check(repeat("a", n))
		check(repeat("0", n) + "a")
	}
}

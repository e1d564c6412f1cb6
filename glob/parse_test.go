package glob_test

import (
	"math/rand"
	"strings"
	"testing"

	"lychgate/api"
	"lychgate/glob"
)

func TestParseTellsPieces(t *testing.T) {
	for s, want := range map[string][]api.Piece{
		"":             nil,
		"a":            {one('a')},
		" ~":           {one(' '), one('~')},
		"*":            {star},
		"**":           {deep},
		"***":          {deep, star},
		"****":         {deep, deep},
		"*****":        {deep, deep, star},
		"*a*":          {star, one('a'), star},
		"*?*":          {star, anyPiece, star},
		`*\**`:         {star, one('*'), star},
		"?":            {anyPiece},
		`\*`:           {one('*')},
		`\?\[\\\a`:     {one('?'), one('['), one('\\'), one('a')},
		`\ \~`:         {one(' '), one('~')},
		"]-!/":         {one(']'), one('-'), one('!'), one('/')},
		"[a]":          {set(false, api.Span{Lo: 'a', Hi: 'a'})},
		"[!a]":         {set(true, api.Span{Lo: 'a', Hi: 'a'})},
		"[!!]":         {set(true, api.Span{Lo: '!', Hi: '!'})},
		"[a!]":         {set(false, api.Span{Lo: '!', Hi: '!'}, api.Span{Lo: 'a', Hi: 'a'})},
		`[\!]`:         {set(false, api.Span{Lo: '!', Hi: '!'})},
		`[\!!]`:        {set(false, api.Span{Lo: '!', Hi: '!'})},
		"[ -!]":        {set(false, api.Span{Lo: ' ', Hi: '!'})},
		"[!!-a]":       {set(true, api.Span{Lo: '!', Hi: 'a'})},
		`[a-cx\-]`:     {set(false, api.Span{Lo: '-', Hi: '-'}, api.Span{Lo: 'a', Hi: 'c'}, api.Span{Lo: 'x', Hi: 'x'})},
		"[ba]":         {set(false, api.Span{Lo: 'a', Hi: 'b'})},
		"[c-ea-d]":     {set(false, api.Span{Lo: 'a', Hi: 'e'})},
		"[a-a]":        {set(false, api.Span{Lo: 'a', Hi: 'a'})},
		"[aaa]":        {set(false, api.Span{Lo: 'a', Hi: 'a'})},
		"[a-bc-d]":     {set(false, api.Span{Lo: 'a', Hi: 'd'})},
		"[*?[/]":       {set(false, api.Span{Lo: '*', Hi: '*'}, api.Span{Lo: '/', Hi: '/'}, api.Span{Lo: '?', Hi: '?'}, api.Span{Lo: '[', Hi: '['})},
		`[\]-\a]`:      {set(false, api.Span{Lo: ']', Hi: 'a'})},
		`[\--\\]`:      {set(false, api.Span{Lo: '-', Hi: '\\'})},
		`[\\-\]]`:      {set(false, api.Span{Lo: '\\', Hi: ']'})},
		"[ -~]":        {set(false, api.Span{Lo: ' ', Hi: '~'})},
		"[~-~]]":       {set(false, api.Span{Lo: '~', Hi: '~'}), one(']')},
		"/a/*.txt":     {one('/'), one('a'), one('/'), star, one('.'), one('t'), one('x'), one('t')},
		"[a]*[!b-c]**": {set(false, api.Span{Lo: 'a', Hi: 'a'}), star, set(true, api.Span{Lo: 'b', Hi: 'c'}), deep},
	} {
		if got := parse(t, s); !samePieces(got, want) {
			t.Errorf("Parse(%q): %v, want %v", s, got, want)
		}
	}
}

func TestParseTellsThePlace(t *testing.T) {
	for s, at := range map[string]int{
		"[]":      1,
		"[!]":     2,
		"[":       1,
		"[!":      2,
		"[a":      2,
		"[a-":     3,
		"[a-b":    4,
		`[\`:      2,
		`[a-\`:    4,
		`\`:       1,
		`ab\`:     3,
		"[a-]":    3,
		"[a--]":   3,
		"[ --]":   3,
		"[-a]":    1,
		"[-]":     1,
		"[!-a]":   2,
		"[a-b-c]": 4,
		"[a-b-]":  4,
		"[b-a]":   3,
		"[a-!]":   3,
		`[b-\a]`:  4,
		`[b-\`:    4,
		`[\b-a]`:  4,
		`[\b-\a]`: 5,
		`[~-}]`:   3,
		"[a]]b[]": 6,
		"*[]":     2,
		"***[]":   4,
		`\*[]`:    3,
		`\[]\`:    4,
	} {
		wantRefused(t, s, at)
	}
}

func TestParseRefusesOtherBytesEverywhere(t *testing.T) {
	for b := range 256 {
		if 32 <= b && b <= 126 {
			continue
		}
		bad := string([]byte{byte(b)})
		for _, head := range []string{"", "a", "*", `\`, "[", "[!", "[a", "[a-", "[a-b", `[\`, `[a-\`, "[a]"} {
			wantRefused(t, head+bad, len(head))
			wantRefused(t, head+bad+"]", len(head))
			wantRefused(t, head+bad+bad, len(head))
		}
	}
}

func TestParseTakesEachByte(t *testing.T) {
	for b := 32; b <= 126; b++ {
		s := string(rune(b))
		if got := parse(t, `\`+s); !samePieces(got, []api.Piece{one(b)}) {
			t.Errorf(`Parse(\%s): %v`, s, got)
		}
		for _, text := range []string{`[\` + s + `]`, `[\` + s + `-\` + s + `]`} {
			if got := parse(t, text); !samePieces(got, []api.Piece{set(false, api.Span{Lo: b, Hi: b})}) {
				t.Errorf(`Parse(%q): %v`, text, got)
			}
		}
		if !strings.Contains(`*?[\`, s) && !samePieces(parse(t, s), []api.Piece{one(b)}) {
			t.Errorf(`Parse(%q) is not the byte`, s)
		}
	}
}

func TestParseTakesEachRange(t *testing.T) {
	for lo := 32; lo <= 126; lo++ {
		for hi := 32; hi <= 126; hi++ {
			s := `[\` + string(rune(lo)) + `-\` + string(rune(hi)) + `]`
			if hi < lo {
				wantRefused(t, s, 5)
			} else if got := parse(t, s); !samePieces(got, []api.Piece{set(false, api.Span{Lo: lo, Hi: hi})}) {
				t.Errorf("Parse(%q): %v", s, got)
			}
		}
	}
}

func TestParseTakes64Pieces(t *testing.T) {
	a := func(n int) string { return strings.Repeat("a", n) }
	for s, pieces := range map[string]int{
		a(64):                         64,
		a(63) + "*":                   64,
		a(63) + "**":                  64,
		a(62) + "***":                 64,
		a(62) + "****":                64,
		strings.Repeat("*", 128):      64,
		strings.Repeat("[!a-b]", 64):  64,
		strings.Repeat(`\a`, 64):      64,
		a(63) + "[" + a(1000) + "-z]": 64,
	} {
		if l := parse(t, s); len(l) != pieces {
			t.Errorf("Parse(%q): %d pieces, want %d", s, len(l), pieces)
		}
	}
	for s, at := range map[string]int{
		a(65):                               64,
		a(1000):                             64,
		a(64) + "*":                         64,
		a(64) + "[":                         64,
		a(64) + `\`:                         64,
		a(64) + "\n":                        64,
		a(63) + "***":                       65,
		a(63) + "*a":                        64,
		a(63) + "**a":                       65,
		a(63) + "[b-a]":                     66,
		a(63) + "[":                         64,
		a(63) + `\`:                         64,
		a(62) + "*****":                     66,
		strings.Repeat("*", 129):            128,
		strings.Repeat("[!a-b]", 65):        6 * 64,
		strings.Repeat(`\a`, 64) + `\`:      128,
		strings.Repeat("?", 64) + "\x80":    64,
		strings.Repeat("[a]", 63) + "[\xff": 190,
	} {
		wantRefused(t, s, at)
	}
}

// From each beginning that goes on, each byte is tried: either it goes on, or it is the place, whatever follows.
func TestParseGoesByTheFormsOfTexts(t *testing.T) {
	const signs = "*?[]!-\\ab/\n"
	var from func(s string, left int)
	from = func(s string, left int) {
		if want, ok := readByForms(s); !ok {
			wantRefused(t, s, len(s))
		} else if got := parse(t, s); !samePieces(got, want) {
			t.Fatalf("Parse(%q): %v, want %v", s, got, want)
		}
		for i := 0; i < len(signs) && left > 0; i++ {
			next := s + signs[i:i+1]
			if goesOn(next) {
				from(next, left-1)
				continue
			}
			for _, tail := range []string{"", "a", "]", "a]"} {
				wantRefused(t, next+tail, len(s))
			}
		}
	}
	from("", 5)
	from("[", 5)
	from("[!a-", 4)
}

func TestParseOfRandomTexts(t *testing.T) {
	r := rand.New(rand.NewSource(5))
	const signs = "***??[[[]]]!--\\\\abcxyz/~ "
	for range 4000 {
		text := make([]byte, r.Intn(90))
		for i := range text {
			text[i] = signs[r.Intn(len(signs))]
		}
		s := string(text)
		want, ok := readByForms(s)
		if got, e, at := glob.Parse(s); ok != (e == api.OK) || !samePieces(got, want) || at != placeByForms(s, ok) {
			t.Fatalf("Parse(%q): %v, error %d at %d", s, got, e, at)
		}
	}
}

func placeByForms(s string, right bool) int {
	if right {
		return 0
	}
	at := 0
	for at < len(s) && goesOn(s[:at+1]) {
		at++
	}
	return at
}

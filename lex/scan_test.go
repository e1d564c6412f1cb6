package lex_test

import (
	"math/rand"
	"strings"
	"testing"

	"lychgate/api"
)

func TestScanTellsTokens(t *testing.T) {
	end := func(at int) api.Token { return api.Token{Kind: api.TokenEnd, At: at} }
	prefix := func(addr, bits, at int) api.Token {
		return api.Token{Kind: api.TokenPrefix, Prefix: api.Prefix{Addr: addr, Bits: bits}, At: at}
	}
	for s, want := range map[string][]api.Token{
		"": {end(0)},
		`let a-1 = "x\"y"; # z`: {
			{Kind: api.TokenWord, Text: "let", At: 0}, {Kind: api.TokenName, Text: "a-1", At: 4}, {Kind: api.TokenSign, Text: "=", At: 8},
			{Kind: api.TokenText, Text: `x"y`, At: 10}, {Kind: api.TokenSign, Text: ";", At: 16}, end(21)},
		"10.0.0.0/8,80-90": {
			prefix(167772160, 8, 0), {Kind: api.TokenSign, Text: ",", At: 10}, {Kind: api.TokenNumber, Number: 80, At: 11},
			{Kind: api.TokenSign, Text: "-", At: 13}, {Kind: api.TokenNumber, Number: 90, At: 14}, end(16)},
		"1.2.3.4":             {prefix(16909060, 32, 0), end(7)},
		"0.0.0.0/0":           {prefix(0, 0, 0), end(9)},
		"80a":                 {{Kind: api.TokenNumber, Number: 80}, {Kind: api.TokenName, Text: "a", At: 2}, end(3)},
		"GETx":                {{Kind: api.TokenMethod, Text: "GET"}, {Kind: api.TokenName, Text: "x", At: 3}, end(4)},
		"xGET":                {{Kind: api.TokenName, Text: "x"}, {Kind: api.TokenMethod, Text: "GET", At: 1}, end(4)},
		"in-1":                {{Kind: api.TokenName, Text: "in-1"}, end(4)},
		"in -1":               {{Kind: api.TokenWord, Text: "in"}, {Kind: api.TokenSign, Text: "-", At: 3}, {Kind: api.TokenNumber, Number: 1, At: 4}, end(5)},
		"A-a-":                {{Kind: api.TokenMethod, Text: "A"}, {Kind: api.TokenSign, Text: "-", At: 1}, {Kind: api.TokenName, Text: "a-", At: 2}, end(4)},
		"0":                   {{Kind: api.TokenNumber}, end(1)},
		"4294967295":          {{Kind: api.TokenNumber, Number: 4294967295}, end(10)},
		"not":                 {{Kind: api.TokenWord, Text: "not"}, end(3)},
		`""`:                  {{Kind: api.TokenText}, end(2)},
		`"\\"""`:              {{Kind: api.TokenText, Text: `\`}, {Kind: api.TokenText, At: 4}, end(6)},
		`"# a" b`:             {{Kind: api.TokenText, Text: "# a"}, {Kind: api.TokenName, Text: "b", At: 6}, end(7)},
		"#":                   {end(1)},
		"#\"\n;":              {{Kind: api.TokenSign, Text: ";", At: 3}, end(4)},
		"#\r;\n;":             {{Kind: api.TokenSign, Text: ";", At: 4}, end(5)},
		"a#b\nc":              {{Kind: api.TokenName, Text: "a"}, {Kind: api.TokenName, Text: "c", At: 4}, end(5)},
		"#é\xc3\n;":           {{Kind: api.TokenSign, Text: ";", At: 5}, end(6)},
		"#\x00\xff\xe2\x82\n": {end(6)},
		" \t\r\n":             {end(4)},
	} {
		if got := scan(s); !got.same(answer{tokens: want}) {
			t.Errorf("Scan(%q): %v, want %v", s, got, want)
		}
	}
}

func TestScanTellsEachSign(t *testing.T) {
	for at, r := range "{}(),;=~-" {
		s := repeat(" ", at) + string(r)
		want := []api.Token{{Kind: api.TokenSign, Text: string(r), At: at}, {Kind: api.TokenEnd, At: at + 1}}
		if got := scan(s); !got.same(answer{tokens: want}) {
			t.Errorf("Scan(%q): %v", s, got)
		}
	}
}

func TestScanTellsFaults(t *testing.T) {
	for s, want := range map[string]answer{
		"01": {e: api.ErrLexNumber}, "00": {e: api.ErrLexNumber}, "4294967296": {e: api.ErrLexNumber}, "18446744073709551616": {e: api.ErrLexNumber},
		"1.2.3": {e: api.ErrLexNumber}, "1.2.3.4/33": {e: api.ErrLexNumber}, "1.2.3.4/8": {e: api.ErrLexNumber}, "1/2": {e: api.ErrLexNumber},
		"1.": {e: api.ErrLexNumber}, "1/": {e: api.ErrLexNumber}, "1.2.3.4/": {e: api.ErrLexNumber}, "1.2.3.4.": {e: api.ErrLexNumber}, "1.2.3.4/32/": {e: api.ErrLexNumber},
		"1.2.3.04": {e: api.ErrLexNumber}, "256.0.0.0": {e: api.ErrLexNumber}, "0.0.0.0/00": {e: api.ErrLexNumber},
		repeat("9", 8000): {e: api.ErrLexNumber}, "a 00": {e: api.ErrLexNumber, at: 2}, "a00 00": {e: api.ErrLexNumber, at: 4},
		`a "b`: {e: api.ErrLexText, at: 2}, `"\n"`: {e: api.ErrLexText}, "\"\n\"": {e: api.ErrLexText}, `"`: {e: api.ErrLexText}, `"\`: {e: api.ErrLexText},
		`"\"`: {e: api.ErrLexText}, `"a\\\"`: {e: api.ErrLexText}, `"\a"`: {e: api.ErrLexText}, "\"\t\"": {e: api.ErrLexText}, "\"\x7f\"": {e: api.ErrLexText},
		"\"é\"": {e: api.ErrLexText}, "\"\x80\"": {e: api.ErrLexText}, `"" "`: {e: api.ErrLexText, at: 3}, "\"a\x00": {e: api.ErrLexText},
		"a ?": {e: api.ErrLexByte, at: 2}, "a _b": {e: api.ErrLexByte, at: 2}, "é": {e: api.ErrLexByte}, "aé": {e: api.ErrLexByte, at: 1}, "\xc3": {e: api.ErrLexByte},
		"�": {e: api.ErrLexByte}, "\x80": {e: api.ErrLexByte}, ".": {e: api.ErrLexByte}, "/": {e: api.ErrLexByte}, "a.b": {e: api.ErrLexByte, at: 1}, `\`: {e: api.ErrLexByte},
		"A_": {e: api.ErrLexByte, at: 1}, "# ?\n?": {e: api.ErrLexByte, at: 4}, "\x0b": {e: api.ErrLexByte}, "\x0c": {e: api.ErrLexByte}, "\u00a0": {e: api.ErrLexByte},
	} {
		if got := scan(s); !got.same(want) {
			t.Errorf("Scan(%s): %v, want %v", short(s), got, want)
		}
	}
}

// Of several faults the first one from the left counts, whichever is found out first.
func TestScanTellsTheFirstFault(t *testing.T) {
	faults := map[string]api.Errno{"?": api.ErrLexByte, "01": api.ErrLexNumber, repeat("a", 33): api.ErrLexName, repeat("A", 17): api.ErrLexName, `"`: api.ErrLexText}
	for first, e := range faults {
		for second := range faults {
			for _, between := range []string{"", " ", ";", "\n"} {
				s := "x;" + first + between + second
				want, _ := wordsScan(s)
				if got := scan(s); !got.same(want) || between != "" && !got.same(answer{e: e, at: 2}) && first != `"` {
					t.Errorf("Scan(%q): %v, want %v", s, got, want)
				}
			}
		}
	}
}

func TestScanCountsBytes(t *testing.T) {
	for s, e := range map[string]api.Errno{
		repeat("a", 32): api.OK, repeat("a", 33): api.ErrLexName,
		"a" + repeat("-", 31): api.OK, "a" + repeat("-", 32): api.ErrLexName, "a" + repeat("0", 32): api.ErrLexName, "a" + repeat("_", 7999): api.ErrLexName,
		repeat("A", 16): api.OK, repeat("A", 17): api.ErrLexName, repeat("Z", 8000): api.ErrLexName,
		repeat("A", 16) + repeat("a", 32): api.OK, repeat("a", 32) + repeat("A", 16): api.OK,
		`"` + repeat("q", 200) + `"`: api.OK, `"` + repeat("q", 201) + `"`: api.ErrLexText,
		`"` + repeat(`\\`, 200) + `"`: api.OK, `"` + repeat(`\"`, 200) + `"`: api.OK,
		`"` + repeat(`\\`, 201) + `"`: api.ErrLexText, `"` + repeat(`\\`, 200) + `a"`: api.ErrLexText, `"` + repeat("q", 200) + `\""`: api.ErrLexText,
		`"` + repeat("q", 7998) + `"`: api.ErrLexText, `"` + repeat("q", 200): api.ErrLexText,
	} {
		checkScan(t, s)
		if got := scan(s); got.e != e || got.at != 0 {
			t.Errorf("Scan(%s): error %d at %d, want %d", short(s), got.e, got.at, e)
		}
	}
	// The bytes of one text do not count for the next one.
	checkScan(t, repeat(`"`+repeat("q", 200)+`"`, 30))
}

func TestScanTakes8000Bytes(t *testing.T) {
	for _, unit := range []string{" ", ";", "a ", "A ", "1 ", `""`, "#", "#\n", "{}", "aA", "0A", "\n\n"} {
		s := repeat(unit, 8000/len(unit))
		if got := scan(s); got.e != api.OK || got.at != 0 || got.tokens[len(got.tokens)-1] != (api.Token{Kind: api.TokenEnd, At: 8000}) {
			t.Errorf("8000 bytes of %q: error %d at %d", unit, got.e, got.at)
		}
		checkScan(t, s)
		for _, more := range []string{" ", "?", `"`, ";", repeat(unit, 100000)} {
			if got := scan(s + more); !got.same(answer{e: api.ErrLexLong, at: 8000}) {
				t.Errorf("8000 bytes of %q and more: %v", unit, got)
			}
		}
	}
	for _, s := range []string{repeat("?", 8001), "01" + repeat(" ", 7999), repeat("a", 8001), `"` + repeat("q", 8000), repeat(" ", 8001)} {
		if got := scan(s); !got.same(answer{e: api.ErrLexLong, at: 8000}) {
			t.Errorf("Scan(%s): %v", short(s), got)
		}
	}
	if got := scan(repeat(" ", 7999) + "?"); !got.same(answer{e: api.ErrLexByte, at: 7999}) {
		t.Errorf("a fault in the last byte: %v", got)
	}
}

// Each byte behind and ahead of each kind of thing, and two of them.
func TestScanOfEachByte(t *testing.T) {
	heads := []string{"", "a", "let", "A", "0", "1.", "1.2.3.4", "1.2.3.4/3", `"`, `"\`, `""`, "#", "#\n", ";", " ", repeat("a", 32), repeat("A", 16), `"` + repeat("q", 200)}
	tails := []string{"", "a", "A", "0", `"`, `\"`, ";", " ", "#", "\n;", "é", "\xbf"}
	for _, head := range heads {
		for b := range 256 {
			for _, tail := range tails {
				checkScan(t, head+string([]byte{byte(b)})+tail)
			}
			checkScan(t, head+repeat(string([]byte{byte(b)}), 2))
		}
	}
}

func TestScanOfShortTexts(t *testing.T) {
	eachText("a-0.A\"\\#\n ;?", 5, func(s string) { checkScan(t, s) })
	eachText("019./", 6, func(s string) { checkScan(t, s) })
	eachText("\"\\n\x80 ", 7, func(s string) { checkScan(t, s) })
	eachText("#\n\xc3\xa9;", 6, func(s string) { checkScan(t, s) })
}

func TestScanOfNumbers(t *testing.T) {
	for _, n := range []string{"429496729", "4294967294", "4294967295", "4294967296", "4294967300", "4294967305", "8589934592", "9999999999", "10000000000", "42949672950", "9223372036854775807", "9223372036854775808", "18446744073709551615", "18446744073709551616", "18446744073709551617", "36893488147419103233"} {
		checkScan(t, n)
		checkScan(t, "0"+n)
		checkScan(t, n+"a")
	}
	r := rand.New(rand.NewSource(1))
	for range 3000 {
		parts := make([]string, 3+r.Intn(3))
		for i := range parts {
			parts[i] = pick(r, "0", "1", "10", "255", "256", "00", "128", "", "999")
		}
		checkScan(t, strings.Join(parts, ".")+pick(r, "", "", "/", "/0", "/8", "/24", "/32", "/33", "/08", "/1/2"))
	}
}

func TestScanOfRandomSources(t *testing.T) {
	r := rand.New(rand.NewSource(8))
	for range 20000 {
		s := randomSource(r)
		checkScan(t, s)
		checkScan(t, disturbed(r, s))
	}
}

package lex_test

import (
	"strings"
	"testing"

	"lychgate/api"
	"lychgate/lex"
)

func TestIsWord(t *testing.T) {
	words := strings.Fields(ownWords)
	if len(words) != 16 {
		t.Fatalf("%d words", len(words))
	}
	for _, w := range words {
		if !lex.IsWord(w) || lex.IsName(w) {
			t.Errorf("%q is a word, and no name", w)
		}
		for _, s := range []string{w + "-", w + "x", w + "0", "x" + w} {
			if lex.IsWord(s) || !lex.IsName(s) {
				t.Errorf("%q is a name, and no word", s)
			}
		}
		for _, s := range []string{w + " ", " " + w, strings.ToUpper(w), w + "\n", w + "\x00", w + "," + w} {
			if lex.IsWord(s) || lex.IsName(s) {
				t.Errorf("%q is nothing", s)
			}
		}
	}
	for _, s := range []string{"", "a", "GET", "end", "if", "deep", ownWords, "let allow"} {
		if lex.IsWord(s) {
			t.Errorf("%q is no word", s)
		}
	}
}

func TestIsName(t *testing.T) {
	for s, want := range map[string]bool{
		"a_-1": true, "a": true, "z": true, "a-": true, "a_": true, "a--": true, "a0": true, "whena": true, repeat("a", 32): true, "a" + repeat("-", 31): true,
		"": false, "when": false, "A": false, "1a": false, "-a": false, "_a": false, "aA": false, "a b": false, "a.b": false, "a/": false, "é": false, "aé": false, "a\xff": false, "a�": false,
		repeat("a", 33): false, "a" + repeat("-", 32): false, repeat("a", 1000000): false, "{": false, "\x00": false, "a\x00": false, `"a"`: false, "#": false, "0": false,
	} {
		if lex.IsName(s) != want {
			t.Errorf("IsName(%s): %v", short(s), !want)
		}
	}
}

func TestIsNameOfEachByte(t *testing.T) {
	for b := range 256 {
		s := string([]byte{byte(b)})
		first := strings.Contains("abcdefghijklmnopqrstuvwxyz", s)
		behind := strings.Contains("abcdefghijklmnopqrstuvwxyz0123456789_-", s)
		if lex.IsName(s) != first || lex.IsName("a"+s) != behind || lex.IsName("a"+s+"a") != behind || lex.IsName(s+"a") != first {
			t.Errorf("IsName of texts with %q", s)
		}
	}
}

func TestQuote(t *testing.T) {
	for s, want := range map[string]string{
		"": `""`, `a"`: `"a\""`, `\`: `"\\"`, `\"`: `"\\\""`, "~ ": `"~ "`, "#": `"#"`, "/pub/**": `"/pub/**"`,
		repeat("q", 200): `"` + repeat("q", 200) + `"`, repeat(`"`, 200): `"` + repeat(`\"`, 200) + `"`,
	} {
		if q, e := lex.Quote(s); q != want || e != api.OK {
			t.Errorf("Quote(%s): %s, error %d", short(s), short(q), e)
		}
	}
	for _, s := range []string{repeat("q", 201), repeat("q", 1000000), repeat(`\`, 201), "\n", "\t", "\x7f", "\x00", "é", "a\xc3", "�", "ab\x1f", repeat("q", 199) + "\x80", repeat("é", 101), repeat("\n", 201)} {
		if q, e := lex.Quote(s); q != "" || e != api.ErrArg {
			t.Errorf("Quote(%s): %s, error %d", short(s), short(q), e)
		}
	}
}

func TestQuoteOfEachByte(t *testing.T) {
	for b := range 256 {
		s := string([]byte{byte(b)})
		want, wantErr := `"a`+s+`a"`, api.OK
		if b == '"' || b == '\\' {
			want = `"a\` + s + `a"`
		}
		if b < 32 || b > 126 {
			want, wantErr = "", api.ErrArg
		}
		if q, e := lex.Quote("a" + s + "a"); q != want || e != wantErr {
			t.Errorf("Quote of a text with %q: %q, error %d", s, q, e)
		}
	}
}

package lex_test

import (
	"math/big"
	"math/rand"
	"regexp"
	"slices"
	"strconv"
	"strings"
	"testing"

	"lychgate/api"
	"lychgate/lex"
)

// What follows takes sources apart by the chapter's words, by other means than the package does.

const ownWords = "let allow deny when and or not true false in addr port method path header has"

var (
	betweenForm = regexp.MustCompile(`\A(?:[ \t\n\r]|#[^\n]*(?:\n|\z))*`)
	smallForm   = regexp.MustCompile(`\A[a-z][a-z0-9_\-]*`)
	greatForm   = regexp.MustCompile(`\A[A-Z]+`)
	digitsForm  = regexp.MustCompile(`\A[0-9][0-9./]*`)
	textForm    = regexp.MustCompile(`\A"(?:[ !#-\[\]-~]|\\["\\])*"`)
	signForm    = regexp.MustCompile(`\A[{}(),;=~\-]`)
	escapeForm  = regexp.MustCompile(`\\(.)`)
	numberForm  = regexp.MustCompile(`\A(?:0|[1-9][0-9]*)\z`)
	prefixForm  = regexp.MustCompile(`\A(0|[1-9][0-9]*)\.(0|[1-9][0-9]*)\.(0|[1-9][0-9]*)\.(0|[1-9][0-9]*)(?:/(0|[1-9][0-9]*))?\z`)
)

// answer is what Scan answers.
type answer struct {
	tokens []api.Token
	e      api.Errno
	at     int
}

func (a answer) same(b answer) bool {
	return slices.Equal(a.tokens, b.tokens) && a.e == b.e && a.at == b.at
}

func scan(s string) answer {
	tokens, e, at := lex.Scan(s)
	return answer{tokens, e, at}
}

// wordsScan is what a source has, by the words; and each token, or run or byte that is wrong, as it stands there.
func wordsScan(s string) (answer, []string) {
	if len(s) > 8000 {
		return answer{e: api.ErrLexLong, at: 8000}, nil
	}
	var out answer
	var pieces []string
	at := 0
	for {
		at += len(betweenForm.FindString(s[at:]))
		if at == len(s) {
			out.tokens = append(out.tokens, api.Token{Kind: api.TokenEnd, At: at})
			return out, pieces
		}
		token, piece, e := wordsToken(s[at:])
		pieces = append(pieces, piece)
		if e != api.OK {
			return answer{e: e, at: at}, pieces
		}
		token.At = at
		out.tokens = append(out.tokens, token)
		at += len(piece)
	}
}

// wordsToken is the token with which s begins.
func wordsToken(s string) (api.Token, string, api.Errno) {
	switch {
	case smallForm.MatchString(s):
		piece := smallForm.FindString(s)
		if slices.Contains(strings.Fields(ownWords), piece) {
			return api.Token{Kind: api.TokenWord, Text: piece}, piece, api.OK
		}
		return api.Token{Kind: api.TokenName, Text: piece}, piece, wrongIf(len(piece) > 32, api.ErrLexName)
	case greatForm.MatchString(s):
		piece := greatForm.FindString(s)
		return api.Token{Kind: api.TokenMethod, Text: piece}, piece, wrongIf(len(piece) > 16, api.ErrLexName)
	case digitsForm.MatchString(s):
		piece := digitsForm.FindString(s)
		token, is := wordsDigits(piece)
		return token, piece, wrongIf(!is, api.ErrLexNumber)
	case textForm.MatchString(s):
		piece := textForm.FindString(s)
		meant := escapeForm.ReplaceAllString(piece[1:len(piece)-1], "$1")
		return api.Token{Kind: api.TokenText, Text: meant}, piece, wrongIf(len(meant) > 200, api.ErrLexText)
	case s[0] == '"':
		return api.Token{}, s, api.ErrLexText
	case signForm.MatchString(s):
		return api.Token{Kind: api.TokenSign, Text: s[:1]}, s[:1], api.OK
	}
	return api.Token{}, s[:1], api.ErrLexByte
}

func wrongIf(is bool, e api.Errno) api.Errno {
	if is {
		return e
	}
	return api.OK
}

// wordsDigits is the token of a run of digits.
func wordsDigits(run string) (api.Token, bool) {
	if numberForm.MatchString(run) {
		n, _ := new(big.Int).SetString(run, 10)
		if n.BitLen() > 32 {
			return api.Token{}, false
		}
		return api.Token{Kind: api.TokenNumber, Number: int(n.Int64())}, true
	}
	parts := prefixForm.FindStringSubmatch(run)
	if parts == nil {
		return api.Token{}, false
	}
	p := api.Prefix{Bits: 32}
	for _, part := range parts[1:5] {
		n, err := strconv.Atoi(part)
		if err != nil || n > 255 {
			return api.Token{}, false
		}
		p.Addr = p.Addr*256 + n
	}
	if parts[5] != "" {
		n, err := strconv.Atoi(parts[5])
		if err != nil || n > 32 || p.Addr%(1<<(32-n)) != 0 {
			return api.Token{}, false
		}
		p.Bits = n
	}
	return api.Token{Kind: api.TokenPrefix, Prefix: p}, true
}

// checkScan holds Scan against the words.
func checkScan(t *testing.T, s string) {
	t.Helper()
	want, _ := wordsScan(s)
	if got := scan(s); !got.same(want) {
		t.Fatalf("Scan(%s): %v, want %v", short(s), got, want)
	}
}

// short cuts a text that is too long to be told.
func short(s string) string {
	if len(s) > 200 {
		return strconv.Quote(s[:200]) + "..."
	}
	return strconv.Quote(s)
}

func repeat(s string, n int) string { return strings.Repeat(s, n) }

// eachText gives all texts of at most n of these bytes.
func eachText(bytes string, n int, give func(s string)) {
	var from func(s string)
	from = func(s string) {
		give(s)
		for i := 0; i < len(bytes) && len(s) < n; i++ {
			from(s + bytes[i:i+1])
		}
	}
	from("")
}

func pick(r *rand.Rand, l ...string) string { return l[r.Intn(len(l))] }

// randomPiece is a token as it may stand in a source, a blank or a remark.
func randomPiece(r *rand.Rand) string {
	switch r.Intn(8) {
	case 0:
		return pick(r, strings.Fields(ownWords)...)
	case 1:
		return pick(r, "a", "z", "a-1", "lets", "le", "x_y", "has-", "in0", repeat("n", 32))
	case 2:
		return pick(r, "GET", "PUT", "A", "Z", repeat("M", 16))
	case 3:
		return pick(r, "0", "7", "80", "65536", "4294967295", strconv.Itoa(r.Intn(1<<32)))
	case 4:
		return pick(r, "1.2.3.4", "0.0.0.0/0", "10.0.0.0/8", "255.255.255.255/32", "128.0.0.0/1")
	case 5:
		return `"` + randomText(r) + `"`
	case 6:
		return pick(r, "{", "}", "(", ")", ",", ";", "=", "~", "-")
	}
	return pick(r, " ", "\t", "\n", "\r", "\r\n", "# ?\n", "#\"\n", "#\n", "#\x00é\xff#\n")
}

// randomText is what may stand between quotes.
func randomText(r *rand.Rand) string {
	s := ""
	for range r.Intn(6) {
		s += pick(r, "a", " ", "~", "#", `\"`, `\\`, "/**", "!", "[", "]")
	}
	return s
}

func randomSource(r *rand.Rand) string {
	s := ""
	for range r.Intn(14) {
		s += randomPiece(r) + pick(r, "", " ", "", "\n")
	}
	return s
}

// disturbed is a text with a byte more, less or another.
func disturbed(r *rand.Rand, s string) string {
	if s == "" {
		return "?"
	}
	at := r.Intn(len(s))
	b := pick(r, " ", "\n", `"`, `\`, "#", ".", "/", "0", "_", "-", "a", "A", "?", "\x00", "\x7f", "\x80", "\xc3", "é", "�")
	return s[:at] + pick(r, "", b) + s[at+r.Intn(2):]
}

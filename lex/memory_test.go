package lex_test

import (
	"math/rand"
	"slices"
	"strconv"
	"testing"
	"unsafe"

	"lychgate/api"
	"lychgate/lex"
)

const mixed = `let a-1 = "x\"y" and method in {GET, 80, 10.0.0.0/8}; # z`

func TestTokensAreNewMemory(t *testing.T) {
	one, two := scan(mixed), scan(mixed)
	want, _ := wordsScan(mixed)
	spare := one.tokens[:cap(one.tokens)]
	for i := range spare {
		spare[i] = api.Token{Kind: -9, Text: "mark", Number: -9, At: -9}
	}
	if !two.same(want) {
		t.Error("two answers of Scan share memory")
	}
	if three := scan(mixed); !three.same(want) {
		t.Error("Scan keeps what it gave")
	}
}

// within: does a piece lie in a text's own memory?
func within(piece, text string) bool {
	if piece == "" || text == "" {
		return false
	}
	from := uintptr(unsafe.Pointer(unsafe.StringData(text)))
	at := uintptr(unsafe.Pointer(unsafe.StringData(piece)))
	return from <= at && at < from+uintptr(len(text))
}

func TestTextsShareNothingWithTheSource(t *testing.T) {
	source := string([]byte(mixed))
	for _, token := range scan(source).tokens {
		if within(token.Text, source) {
			t.Errorf("%q is a piece of the source", token.Text)
		}
	}
}

func TestFaultsGiveNoTokens(t *testing.T) {
	for _, s := range []string{mixed + "\n?", mixed + "\n01", mixed + "\n\"", mixed + "\n" + repeat("a", 33), mixed + repeat(" ", 8000)} {
		if tokens, e, _ := lex.Scan(s); len(tokens) != 0 || e == api.OK {
			t.Errorf("Scan(%s): %v, error %d", short(s), tokens, e)
		}
	}
}

// Calls at the same time do not disturb one another.
func TestCallsAtTheSameTime(t *testing.T) {
	for seed := range 8 {
		t.Run(strconv.Itoa(seed), func(t *testing.T) {
			t.Parallel()
			r := rand.New(rand.NewSource(int64(seed)))
			for range 1000 {
				s := randomSource(r)
				checkScan(t, s)
				checkScan(t, disturbed(r, s))
				wantOneText(t, string(slices.Repeat([]byte{byte(32 + r.Intn(95))}, r.Intn(201))))
				if !lex.IsWord("has") || lex.IsName("has") || !lex.IsName("has-") {
					t.Fatal("words and names")
				}
			}
		})
	}
}

package syntax_test

import (
	"math/rand"
	"strings"
	"testing"

	"lychgate/api"
	"lychgate/lex"
	"lychgate/syntax"
)

// wantTheorem: what Parse takes is right, and Print says it again and again, in at most as many bytes.
func wantTheorem(t *testing.T, s string) {
	t.Helper()
	a := parse(s)
	if a.e != api.OK || a.at != 0 {
		t.Fatalf("%s is refused: error %d, place %d", short(s), a.e, a.at)
	}
	u, e := syntax.Print(a.policy)
	if e != api.OK || !syntax.Right(a.policy) || len(u) > len(s) {
		t.Fatalf("%s: printed as %s, error %d", short(s), short(u), e)
	}
	b := parse(u)
	if v, e := syntax.Print(b.policy); b.e != api.OK || !syntax.Same(a.policy, b.policy) || v != u || e != api.OK {
		t.Fatalf("%s: printed as %s, and then as %s", short(s), short(u), short(v))
	}
}

func TestParseOfPrintIsThePolicy(t *testing.T) {
	r := rand.New(rand.NewSource(16))
	for range 8000 {
		p := randomPolicy(r)
		s, _ := laid(p, r)
		if len(s) <= 8000 {
			wantTheorem(t, s)
		}
		u, e := syntax.Print(p)
		if e == api.OK && !says(u, p) {
			t.Fatalf("Print's %s says something else", short(u))
		}
	}
	for _, s := range []string{"", "let a=true;" + repeat(" ", 7989), repeat("let a=b;", 100), "let a=" + repeat("(", 3000) + "b" + repeat(")", 3000) + ";", "let a=" + row(row("b", " and ", 32), " or ", 32) + ";"} {
		wantTheorem(t, s)
	}
}

// toldAt is the place of the token at which a fault is told: the first one behind which all else may be left out.
func toldAt(t *testing.T, s string, want answer) int {
	t.Helper()
	c := newChart()
	tokens, _, _ := lex.Scan(s)
	for i, token := range tokens {
		next, e, at := c.step(token)
		if e != api.OK {
			if e != want.e || at != want.at {
				t.Fatalf("%s: error %d, place %d, want %d, %d", short(s), want.e, want.at, e, at)
			}
			return i
		}
		c = next
	}
	t.Fatalf("%s: no fault", short(s))
	return 0
}

func TestNothingBehindAFaultCounts(t *testing.T) {
	r := rand.New(rand.NewSource(17))
	pieces := strings.Fields(`let allow deny when and or not true in addr port header has a GET 80 1.2.3.4 "t" { } ( ) , ; = ~ -`)
	for i := range 1500 {
		s := "let a = " + randomEdge(r, 13+r.Intn(6)) + pick(r, ";", "; let", "", ")", " x")
		if i%2 == 0 {
			s, _ = laid(randomPolicy(r), nil)
			s += " " + pick(r, pieces...) + " " + pick(r, pieces...)
		}
		want := parse(s)
		if want.e == api.OK {
			continue
		}
		tokens, _, _ := lex.Scan(s)
		at := toldAt(t, s, want)
		if at == len(tokens)-1 {
			continue
		}
		head := s[:tokens[at+1].At]
		for range 3 {
			tail := ""
			for range r.Intn(6) {
				tail += " " + pick(r, pieces...)
			}
			if got := parse(head + tail); got.told() != want.told() {
				t.Fatalf("Parse(%s): %s, want %s", short(head+tail), got.told(), want.told())
			}
		}
	}
}

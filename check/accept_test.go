package check_test

import (
	"fmt"
	"math/rand"
	"slices"
	"strings"
	"testing"

	"lychgate/api"
	"lychgate/check"
	"lychgate/syntax"
)

// lookSource holds Accept of any text against what Parse and the words say.
func lookSource(t *testing.T, s string) api.Errno {
	t.Helper()
	want, e, at := syntax.Parse(s)
	if e == api.OK {
		e, at = wordsCheck(want)
	}
	if e != api.OK {
		want = api.Policy{}
	}
	p, f, place := check.Accept(s)
	if f != e || place != at || fmt.Sprintf("%+v", p) != fmt.Sprintf("%+v", want) {
		t.Fatalf("Accept(%q): %+v, %d, %d; the words: %+v, %d, %d", s, p, f, place, want, e, at)
	}
	if e != api.OK && p.Items != nil {
		t.Fatalf("Accept(%q): items beside an error", s)
	}
	return e
}

func TestAcceptRefusesWhatParseDoes(t *testing.T) {
	for _, x := range []struct {
		e  api.Errno
		at int
		s  string
	}{
		{api.ErrLexByte, 13, `allow a when ?;`},
		{api.ErrLexByte, 15, `allow a when b ?;`},
		{api.ErrLexNumber, 22, `allow a when port in {01};`},
		{api.ErrLexName, 6, `allow ` + strings.Repeat("a", 33) + ` when b;`},
		{api.ErrLexText, 17, `allow a when has "b;`},
		{api.ErrLexLong, 8000, strings.Repeat(" ", 8001)},
		{api.ErrSyntaxToken, 13, `allow a when ;`},
		{api.ErrSyntaxToken, 14, `allow a when b`},
		{api.ErrSyntaxToken, 33, `let a = true; allow a when true; ;`},
		{api.ErrSyntaxDeep, 8, `let a = ` + strings.Repeat("not ", 16) + `b;`},
		{api.ErrSyntaxMany, 8 + 32*5, `let a = ` + strings.Repeat("b or ", 32) + `b;`},
	} {
		lookSource(t, x.s)
		p, e, at := check.Accept(x.s)
		if e != x.e || at != x.at || len(p.Items) != 0 {
			t.Errorf("%q: %d, %d", x.s, e, at)
		}
	}
}

func TestAcceptByChance(t *testing.T) {
	came := map[api.Errno]int{}
	r := rand.New(rand.NewSource(2))
	for i := range 3000 {
		m := &maker{Rand: r, parts: []int{20, 100}[i%2], headers: 3 + i%4}
		s, e := syntax.Print(m.policy(6))
		if e != api.OK {
			t.Fatal(e)
		}
		if i%3 == 0 && s != "" { // a byte that is not there, or is another
			at := r.Intn(len(s))
			s = s[:at] + pick(r, "", "a", "?", " ", ";", `"`) + s[at+r.Intn(2):]
		}
		came[lookSource(t, s)]++
	}
	if came[api.OK] < 500 || came[api.ErrSyntaxToken] < 100 || came[api.ErrCheckNone] < 100 {
		t.Error(came)
	}
}

func TestHeadersExamples(t *testing.T) {
	for _, x := range []struct {
		s    string
		want []string
	}{
		{``, nil},
		{`allow a when path ~ "/" and port in {1} or method in {GET};`, nil},
		{`allow a when has "z" or header "b" ~ "*" and has "z";`, []string{"b", "z"}},
		{`let x = has "q"; allow a when has "z" or header "b" ~ "*" and not has "z";`, []string{"b", "q", "z"}},
		{`let x = has "aa" or has "a" or header "a-" ~ "" or has "0";`, []string{"0", "a", "a-", "aa"}},
		{`deny x when not (true and not (header "c" ~ "" or false)); allow y when has "a" and has "c";`, []string{"a", "c"}},
	} {
		l, e := check.Headers(policy(t, x.s))
		if e != api.OK || !slices.Equal(l, x.want) {
			t.Errorf("%s: %q, error %d", x.s, l, e)
		}
	}
	for _, s := range []string{`let a = true; let a = has "b";`, `let a = has "b" or c;`, `let a = has "b" or has "B";`, `let a = has "b" and port in {2-1};`, `let a = has "b" or path ~ "[";`,
		`let a = has "a" or has "b" or has "c" or has "d" or has "e";`, ports(65, 1)} {
		if l, e := check.Headers(policy(t, s)); e != api.ErrArg || len(l) != 0 {
			t.Errorf("%s: %q, error %d", s, l, e)
		}
	}
}

func TestHeadersByChance(t *testing.T) {
	r := rand.New(rand.NewSource(3))
	for i := range 4000 {
		m := &maker{Rand: r, parts: []int{30, 1000}[i%2], headers: 1 + i%5}
		p := m.policy(6)
		want, e := []string{}, api.OK
		if f, _ := wordsCheck(p); f == api.OK {
			want = wordsHeaders(p)
		} else {
			e = api.ErrArg
		}
		l, f := check.Headers(p)
		if f != e || !slices.Equal(l, want) {
			t.Fatalf("Headers(%+v): %q, %d; the words: %q, %d", p, l, f, want, e)
		}
	}
}

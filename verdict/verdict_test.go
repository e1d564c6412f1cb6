package verdict_test

import (
	"fmt"
	"math/rand"
	"slices"
	"strings"
	"testing"

	"lychgate/api"
	"lychgate/request"
	"lychgate/verdict"
)

// look holds Holds and Judge, of what may be, against the words.
func look(t *testing.T, p api.Policy, r api.Request) (int, int) {
	t.Helper()
	want := wordsHeld(t, p, r)
	held, e := verdict.Holds(p, r)
	if e != api.OK || !slices.Equal(held, want) {
		t.Fatalf("Holds(%+v, %+v): %v, error %d; the words: %v", p, r, held, e, want)
	}
	v, at := wordsVerdict(p, want)
	if is, place, e := verdict.Judge(p, r); is != v || place != at || e != api.OK {
		t.Fatalf("Judge(%+v, %+v): %d, %d, error %d; the words: %d, %d", p, r, is, place, e, v, at)
	}
	return v, at
}

// asked is the request of a text, in which a blank line is left out.
func asked(t *testing.T, s string) api.Request {
	t.Helper()
	r, e := request.Decode(s + "\n\n")
	if e != api.OK {
		t.Fatalf("%q: error %d", s, e)
	}
	return r
}

func TestExamples(t *testing.T) {
	const source = `let own = addr in {10.0.0.0/8}; allow a when own and port in {80, 443}; deny b when header "x-state" ~ "off*"; allow c when has "x-key";`
	p := accepted(t, source)
	for _, x := range []struct {
		r, held string
		v, at   int
	}{
		{"GET / 10.1.2.3:80", "++--", api.Allow, 1},
		{"GET / 11.1.2.3:80", "----", api.Deny, -1},
		{"GET / 11.1.2.3:80\nx-key:", "---+", api.Allow, 3},
		{"GET / 10.1.2.3:80\nx-key:", "++-+", api.Allow, 1},
		{"GET / 10.1.2.3:443", "++--", api.Allow, 1},
		{"GET / 10.1.2.3:81", "+---", api.Deny, -1},
		{"GET / 10.1.2.3:80\nx-state:off now", "+++-", api.Deny, 2},
		{"GET / 10.1.2.3:80\nx-state:off now\nx-key:1", "++++", api.Deny, 2},
		{"GET / 11.1.2.3:80\nX-State: off\nX-Key:1", "--++", api.Deny, 2},
		{"GET / 10.1.2.3:80\nx-state:on", "++--", api.Allow, 1},
		{"GET / 10.1.2.3:80\nx-state:of", "++--", api.Allow, 1},
	} {
		r := asked(t, x.r)
		if v, at := look(t, p, r); v != x.v || at != x.at {
			t.Errorf("%s: %d, %d", x.r, v, at)
		}
		l, _ := verdict.Holds(p, r)
		told := ""
		for _, is := range l {
			told += map[bool]string{true: "+", false: "-"}[is]
		}
		if told != x.held {
			t.Errorf("%s: %s", x.r, told)
		}
	}
}

func TestEachKindOfCondition(t *testing.T) {
	r := asked(t, "PUT /a/b 1.2.3.4:8080\nk:ab\ne:")
	for _, x := range []struct{ yes, no string }{
		{"true", "false"},
		{"not false", "not true"},
		{"not not true", "not not false"},
		{"true and true", "true and false"},
		{"not (false and true)", "false and true"},
		{"true and true and true", "true and true and false"},
		{"false or true", "false or false"},
		{"true or false", "not (true or false)"},
		{"false or false or true", "false or false or false"},
		{"true or false and false", "(true or false) and false"},
		{"not false or true", "not (false or true)"},
		{"addr in {1.2.3.4}", "addr in {1.2.3.5}"},
		{"addr in {0.0.0.0/0}", "addr in {0.0.0.0/8}"},
		{"addr in {9.0.0.0/8, 1.2.0.0/16}", "addr in {1.2.2.0/24, 1.2.4.0/24}"},
		{"addr in {1.2.3.4/30}", "addr in {1.2.3.0/30, 1.2.3.8/29}"},
		{"port in {8080}", "port in {8079, 8081}"},
		{"port in {1, 8000-8080}", "port in {0-8079, 8081-65535}"},
		{"port in {8080-9000}", "port in {80, 8000-8079}"},
		{"method in {GET, PUT}", "method in {GET}"},
		{"method in {PUT, PUT}", "method in {PUTS, PU}"},
		{`path ~ "/a/*"`, `path ~ "/*"`},
		{`path ~ "/a/b"`, `path ~ "/a"`},
		{`path ~ "/**"`, `path ~ ""`},
		{`path ~ "/[a-c]/?"`, `path ~ "/[!a]/b"`},
		{`header "k" ~ "a?"`, `header "k" ~ "a"`},
		{`header "e" ~ ""`, `header "z" ~ ""`},
		{`header "e" ~ "**"`, `header "z" ~ "**"`},
		{`has "k"`, `has "z"`},
		{`has "e"`, `has "a"`},
		{`n`, `m`},
		{`n and not m`, `not n or m`},
		{`again`, `not again`},
	} {
		for s, want := range map[string]bool{x.yes: true, x.no: false} {
			p := accepted(t, "let n = true; let m = not n; let again = n or m; allow a when "+s+";")
			v, at := look(t, p, r)
			if (v == api.Allow) != want || want != (at == 3) {
				t.Errorf("%s: %d, %d", s, v, at)
			}
			p.Items[3].Kind = api.ItemDeny
			if v, at := look(t, p, r); v != api.Deny || want != (at == 3) {
				t.Errorf("%s, denied: %d, %d", s, v, at)
			}
		}
	}
}

func TestWhichItemDecides(t *testing.T) {
	r := asked(t, "GET / 1.2.3.4:80")
	for _, x := range []struct {
		s     string
		v, at int
	}{
		{"", api.Deny, -1},
		{"let a = true;", api.Deny, -1},
		{"allow a when false;", api.Deny, -1},
		{"deny a when false;", api.Deny, -1},
		{"allow a when true;", api.Allow, 0},
		{"deny a when true;", api.Deny, 0},
		{"allow a when false; allow b when true; allow c when true;", api.Allow, 1},
		{"deny a when false; deny b when true; deny c when true;", api.Deny, 1},
		{"allow a when true; deny b when true;", api.Deny, 1},
		{"deny a when true; allow b when true;", api.Deny, 0},
		{"allow a when true; allow b when true; deny c when false; deny d when true;", api.Deny, 3},
		{"deny c when false; allow a when false; allow b when true;", api.Allow, 2},
		{"let a = true; let b = false; allow c when b; deny d when b; allow e when a;", api.Allow, 4},
	} {
		if v, at := look(t, accepted(t, x.s), r); v != x.v || at != x.at {
			t.Errorf("%s: %d, %d", x.s, v, at)
		}
	}
}

// Names are others' than what they stand for says, and stand in whatever order; a name may be the beginning of another one.
func TestNames(t *testing.T) {
	p := accepted(t, `let zz = port in {80}; deny a when false; let z = not zz; let b = zz and z or z; allow zzz when b; let c = not b; allow d when c and zz; deny e when z or not c;`)
	for n, want := range map[int]int{80: api.Allow, 81: api.Deny} {
		if v, _ := look(t, p, api.Request{Method: "GET", Path: "/", Port: n}); v != want {
			t.Errorf("port %d: %d", n, v)
		}
	}
}

// All policies of up to three items, of few conditions.
func TestSmallPolicies(t *testing.T) {
	key := api.Cond{Kind: api.CondHas, Name: "k"}
	ahead := func(n int) []api.Cond {
		l := []api.Cond{{Kind: api.CondTrue}, {Kind: api.CondFalse}, key, {Kind: api.CondNot, Kids: []api.Cond{key}}}
		for i := range n {
			x := api.Cond{Kind: api.CondName, Name: fmt.Sprint("n", i)}
			l = append(l, x, api.Cond{Kind: api.CondNot, Kids: []api.Cond{x}}, api.Cond{Kind: api.CondAnd, Kids: []api.Cond{key, x}}, api.Cond{Kind: api.CondOr, Kids: []api.Cond{x, key}})
		}
		return l
	}
	requests := []api.Request{{Method: "A", Path: "/"}, {Method: "A", Path: "/", Headers: []api.Field{{Name: "k"}}}}
	many := 0
	var grow func(p api.Policy)
	grow = func(p api.Policy) {
		for _, r := range requests {
			held, e := verdict.Holds(p, r)
			want := small(p, len(r.Headers) > 0)
			v, at := wordsVerdict(p, want)
			if is, place, f := verdict.Judge(p, r); e != api.OK || f != api.OK || !slices.Equal(held, want) || is != v || place != at {
				t.Fatalf("%+v, %+v: %v, %d, %d, errors %d and %d", p, r, held, is, place, e, f)
			}
			many++
		}
		n := len(p.Items)
		if n == 3 {
			return
		}
		for kind := api.ItemLet; kind <= api.ItemDeny; kind++ {
			for _, c := range ahead(n) {
				if !lets(p, c) {
					continue
				}
				grow(api.Policy{Items: append(slices.Clone(p.Items), api.Item{Kind: kind, Name: fmt.Sprint("n", n), Cond: c})})
			}
		}
	}
	grow(api.Policy{})
	if many < 8000 {
		t.Errorf("%d policies and requests alone", many)
	}
}

// lets: is every name in a condition that of a let?
func lets(p api.Policy, c api.Cond) bool {
	if c.Kind == api.CondName && !slices.ContainsFunc(p.Items, func(x api.Item) bool { return x.Kind == api.ItemLet && x.Name == c.Name }) {
		return false
	}
	return !slices.ContainsFunc(c.Kids, func(kid api.Cond) bool { return !lets(p, kid) })
}

// small says of the items of a small policy whether they hold, told whether the request has the one header.
func small(p api.Policy, key bool) []bool {
	held := []bool{}
	says := map[string]bool{}
	var of func(c api.Cond) bool
	of = func(c api.Cond) bool {
		return map[int]func() bool{
			api.CondTrue:  func() bool { return true },
			api.CondFalse: func() bool { return false },
			api.CondHas:   func() bool { return key },
			api.CondName:  func() bool { return says[c.Name] },
			api.CondNot:   func() bool { return !of(c.Kids[0]) },
			api.CondAnd:   func() bool { return of(c.Kids[0]) && of(c.Kids[1]) },
			api.CondOr:    func() bool { return of(c.Kids[0]) || of(c.Kids[1]) },
		}[c.Kind]()
	}
	for _, x := range p.Items {
		says[x.Name] = of(x.Cond)
		held = append(held, says[x.Name])
	}
	return held
}

func TestByChance(t *testing.T) {
	came := map[string]int{}
	r := rand.New(rand.NewSource(1))
	for i := range 4000 {
		p := randomPolicy(r, []int{4, 8}[i%2])
		for range 3 {
			v, at := look(t, p, randomRequest(r))
			came[fmt.Sprint(v, min(at, 3))]++
		}
	}
	for _, s := range []string{"1 0", "1 1", "1 2", "1 3", "2 -1", "2 0", "2 1", "2 2", "2 3"} {
		if came[s] < 200 {
			t.Errorf("%s came up %d times alone", s, came[s])
		}
	}
}

// Each name stands thrice in the next let: who follows them one by one does not come to an end.
func TestNamesOfNames(t *testing.T) {
	s := "let n0 = port in {80};"
	for i := range 97 {
		s += fmt.Sprintf("let n%d = n%d and not not n%d or n%d;", i+1, i, i, i)
	}
	p := accepted(t, s+"allow a when n97; deny b when not n97;")
	if v, at := look(t, p, asked(t, "GET / 1.2.3.4:80")); v != api.Allow || at != 98 {
		t.Errorf("%d, %d", v, at)
	}
	if v, at := look(t, p, asked(t, "GET / 1.2.3.4:81")); v != api.Deny || at != 99 {
		t.Errorf("%d, %d", v, at)
	}
}

func TestAtTheLimits(t *testing.T) {
	r := asked(t, "GET / 1.2.3.4:63\na:1\nb:1\nc:1\nd:1")
	look(t, accepted(t, "allow a when "+strings.Repeat("not ", 14)+"not true;"), r)
	look(t, accepted(t, "allow a when "+strings.Repeat("not ", 15)+"false;"), r)
	look(t, accepted(t, "allow a when "+strings.Repeat("true and ", 31)+"false;"), r)
	look(t, accepted(t, "allow a when "+strings.Repeat("false or ", 31)+"true;"), r)
	look(t, accepted(t, `allow a when has "a" and has "b" and has "c" and has "d" and header "a" ~ "1";`), r)
	s := ""
	for i := range 64 {
		s += fmt.Sprintf("allow n%d when port in {%d};", i, i)
	}
	for _, x := range []int{0, 1, 62, 63} {
		r.Port = x
		if v, at := look(t, accepted(t, s), r); v != api.Allow || at != x {
			t.Errorf("port %d: %d, %d", x, v, at)
		}
	}
	s = strings.Replace(s, "allow n40", "deny n40", 1) + strings.Repeat(" ", 10)
	for i := range 35 {
		s += fmt.Sprintf("allow m%d when false;", i)
	}
	s += "deny last when port in {7};"
	for at, n := range map[int]int{40: 40, 99: 7} {
		r.Port = n
		if v, place := look(t, accepted(t, s), r); v != api.Deny || place != at {
			t.Errorf("port %d: %d, %d", n, v, place)
		}
	}
}

func TestLongTexts(t *testing.T) {
	long := strings.Repeat("/ab", 20000)
	r := api.Request{Method: "GET", Path: long, Headers: []api.Field{{Name: "a", Value: long}}}
	look(t, accepted(t, `let a = path ~ "**b"; deny b when path ~ "**a" or header "a" ~ "*"; allow c when header "a" ~ "**/[a]b" and a;`), r)
	s := "allow a when false"
	for range 31 { // the same test, again and again: it is asked once
		s += ` or path ~ "**a**a**a**a**a**a**a**a"`
	}
	look(t, accepted(t, s+";"), r)
}

// Where items and conditions stand does not matter.
func TestPlacesDoNotMatter(t *testing.T) {
	r := rand.New(rand.NewSource(2))
	for range 500 {
		p, q := randomPolicy(r, 5), randomRequest(r)
		moved := api.Policy{}
		for _, x := range p.Items {
			x.At -= 1000
			x.Cond.At += 1 << 40
			moved.Items = append(moved.Items, x)
		}
		v, at, _ := verdict.Judge(p, q)
		if is, place := look(t, moved, q); is != v || place != at {
			t.Fatalf("%+v, %+v: %d, %d; moved: %d, %d", p, q, v, at, is, place)
		}
	}
}

package check_test

import (
	"fmt"
	"math/rand"
	"strings"
	"testing"

	"lychgate/api"
	"lychgate/check"
)

// look holds Check of a right policy against the words.
func look(t *testing.T, p api.Policy) api.Errno {
	t.Helper()
	want, there := wordsCheck(p)
	if e, at := check.Check(p); e != want || at != there {
		t.Fatalf("Check(%+v): %d, %d; the words: %d, %d", p, e, at, want, there)
	}
	return want
}

func TestCheckRefusesWhatNoSourceSays(t *testing.T) {
	yes := api.Cond{Kind: api.CondTrue, At: 7}
	one := func(c api.Cond) api.Policy {
		return api.Policy{Items: []api.Item{{Kind: api.ItemAllow, Name: "a", Cond: c, At: 5}}}
	}
	deep := yes
	for range 16 {
		deep = api.Cond{Kind: api.CondNot, Kids: []api.Cond{deep}}
	}
	many := api.Policy{}
	for i := range 101 {
		many.Items = append(many.Items, api.Item{Kind: api.ItemLet, Name: fmt.Sprint("n", i), Cond: yes})
	}
	twice := one(yes)
	twice.Items = append(twice.Items, twice.Items[0], api.Item{Kind: 9, At: 3})
	for i, p := range []api.Policy{
		{Items: []api.Item{{}}},
		{Items: []api.Item{{Kind: 4, Name: "a", Cond: yes}}},
		{Items: []api.Item{{Kind: api.ItemLet, Cond: yes}}},
		{Items: []api.Item{{Kind: api.ItemLet, Name: "A", Cond: yes}}},
		{Items: []api.Item{{Kind: api.ItemLet, Name: "let", Cond: yes}}},
		one(api.Cond{}), one(api.Cond{Kind: 13}), one(api.Cond{Kind: -1}),
		one(api.Cond{Kind: api.CondTrue, Name: "a"}),
		one(api.Cond{Kind: api.CondPort}),
		one(api.Cond{Kind: api.CondPort, Spans: []api.Span{{Lo: -1, Hi: 5}}}),
		one(api.Cond{Kind: api.CondPort, Spans: []api.Span{{Hi: 1 << 32}}}),
		one(api.Cond{Kind: api.CondPath, Text: "\n"}),
		one(api.Cond{Kind: api.CondHas, Name: "\x7f"}),
		one(api.Cond{Kind: api.CondName, Name: "B"}),
		one(api.Cond{Kind: api.CondAnd, Kids: []api.Cond{yes}}),
		one(deep), many, twice,
	} {
		if e, at := check.Check(p); e != api.ErrSyntaxTree || at != 0 {
			t.Errorf("policy %d: %d, %d", i, e, at)
		}
		if l, e := check.Headers(p); e != api.ErrArg || len(l) != 0 {
			t.Errorf("policy %d: headers %q, error %d", i, l, e)
		}
	}
	many.Items = many.Items[:100]
	for _, p := range []api.Policy{{}, one(yes), one(deep.Kids[0]), many} {
		if e, at := check.Check(p); e != api.OK || at != 0 {
			t.Errorf("%+v: %d, %d", p, e, at)
		}
	}
}

// The place of what is wrong is told by @, which is no part of the source.
func TestCheckExamples(t *testing.T) {
	for _, x := range []struct {
		e api.Errno
		s string
	}{
		{api.ErrCheckTwice, `let a = true; @allow a when true;`},
		{api.ErrCheckTwice, `let a = true; @let a = true;`},
		{api.ErrCheckTwice, `allow a when true; @let a = true;`},
		{api.ErrCheckTwice, `deny a when true; let b = true; @allow a when b; deny b when zz;`},
		{api.ErrCheckTwice, `allow a when true; @deny a when zz;`},
		{api.ErrCheckTwice, `allow a when true; @deny a when port in {2-1};`},
		{api.ErrCheckNone, `allow a when @b; let b = true;`},
		{api.ErrCheckNone, `let a = @a;`},
		{api.ErrCheckNone, `let a = true; allow b when a; deny c when @b;`},
		{api.ErrCheckNone, `let a = true; allow b when a; deny c when a and @c;`},
		{api.ErrCheckNone, `deny a when true; let b = not @a;`},
		{api.ErrCheckNone, `let aa = true; deny b when @a;`},
		{api.ErrCheckNone, `let a = true; deny b when a or (a and not @bb or cc);`},
		{api.ErrCheckNone, `deny b when @x and port in {2-1}; deny b when true;`},
		{api.ErrCheckRange, `deny b when true and @port in {2-1} and x;`},
		{api.ErrCheckRange, `allow a when @port in {1, 9-5};`},
		{api.ErrCheckRange, `allow a when @port in {65536};`},
		{api.ErrCheckRange, `allow a when not @port in {0-65536};`},
		{api.ErrCheckRange, `allow a when @port in {65536-0};`},
		{api.ErrCheckRange, `allow a when @port in {4294967295-4294967295, 1};`},
		{api.ErrCheckRange, `allow a when @port in {1-0};`},
		{api.ErrCheckGlob, `allow a when @path ~ "/[";`},
		{api.ErrCheckGlob, `allow a when @path ~ "\\";`},
		{api.ErrCheckGlob, `allow a when @path ~ "` + strings.Repeat("a", 65) + `";`},
		{api.ErrCheckGlob, `allow a when @header "A" ~ "[";`},
		{api.ErrCheckGlob, `allow a when @header "a" ~ "[";`},
		{api.ErrCheckHeader, `allow a when @header "A" ~ "*";`},
		{api.ErrCheckHeader, `allow a when not @has "X";`},
		{api.ErrCheckHeader, `allow a when not @has "";`},
		{api.ErrCheckHeader, `allow a when not @has "a_b";`},
		{api.ErrCheckHeader, `allow a when not @has "a b";`},
		{api.ErrCheckHeader, `allow a when @has "` + strings.Repeat("a", 33) + `";`},
		{api.ErrCheckHeader, `allow a when @header "` + strings.Repeat("a", 33) + `" ~ "";`},
		{api.ErrCheckHeader, `allow a when has "a" and has "b" and has "c" and has "d" and @has "E" and has "f";`},
		{api.ErrCheckGlob, `allow a when has "a" and has "b" and has "c" and has "d" and @header "e" ~ "[";`},
		{api.ErrCheckMany, `allow a when has "a" and has "b" and has "c" and has "d" and @has "e";`},
		{api.ErrCheckMany, `allow a when has "a" and has "b" and has "c" and has "d" and @header "e" ~ "" and x;`},
		{api.ErrCheckMany, `let a = header "a" ~ "*"; let b = has "b"; let c = not has "c"; deny d when has "d" or has "a"; allow e when @has "e";`},
		{api.OK, ``},
		{api.OK, `let a = true; let b = a and not a; allow c when b;`},
		{api.OK, `let a = port in {0-65535} or port in {65535} or port in {0};`},
		{api.OK, `let a = has "0-z" or has "` + strings.Repeat("a", 32) + `" or header "-" ~ "[ab]?*\\*";`},
		{api.OK, `allow a when has "a" and has "b" and has "c" and has "d" and header "a" ~ "" and header "d" ~ "x" and has "b";`},
		{api.OK, `allow a when path ~ "` + strings.Repeat("a", 64) + `";`},
	} {
		s := strings.Replace(x.s, "@", "", 1)
		want := max(0, strings.Index(x.s, "@"))
		p := policy(t, s)
		if e, at := check.Check(p); e != x.e || at != want {
			t.Errorf("%s: %d, %d", x.s, e, at)
		}
		look(t, p)
		if _, e, at := check.Accept(s); e != x.e || at != want {
			t.Errorf("Accept %s: %d, %d", x.s, e, at)
		}
	}
}

// ports is a source with so many tests, n conditions in a row.
func ports(many, n int) string {
	s := ""
	for i := range many {
		switch {
		case i%n == 0:
			s += fmt.Sprintf("let n%d = ", i)
		default:
			s += " or "
		}
		s += fmt.Sprintf("port in {%d}", i)
		if i%n == n-1 || i == many-1 {
			s += ";"
		}
	}
	return s
}

func TestCheckCountsTests(t *testing.T) {
	for _, n := range []int{1, 4, 9, 32} {
		s := ports(64, n)
		for _, x := range []struct {
			e api.Errno
			s string
		}{
			{api.OK, ``},
			{api.OK, `allow a when port in {7} or not (port in {7-7} and port in {63, 63});`},
			{api.ErrCheckMany, `allow a when port in {7} and @port in {64};`},
			{api.ErrCheckMany, `allow a when port in {7} and @port in {7, 8};`},
			{api.ErrCheckMany, `allow a when port in {7} and (true or @addr in {0.0.0.7});`},
			{api.ErrCheckMany, `allow a when @path ~ "";`},
			{api.ErrCheckMany, `allow a when @method in {GET};`},
			{api.ErrCheckMany, `allow a when @has "a" and has "A";`},
			{api.ErrCheckMany, `allow a when @header "a" ~ "";`},
			{api.ErrCheckRange, `allow a when @port in {2-1};`},
			{api.ErrCheckHeader, `allow a when @has "A";`},
			{api.ErrCheckNone, `allow a when n0 and true and @n64;`},
			{api.ErrCheckTwice, `@let n0 = port in {64};`},
		} {
			all := s + strings.Replace(x.s, "@", "", 1)
			want := 0
			if x.e != api.OK {
				want = len(s) + strings.Index(x.s, "@")
			}
			p := policy(t, all)
			if e, at := check.Check(p); e != x.e || at != want {
				t.Errorf("%d in a row, and %s: %d, %d", n, x.s, e, at)
			}
			look(t, p)
		}
		if _, e, at := check.Accept(ports(65, n)); e != api.ErrCheckMany || at != strings.LastIndex(ports(65, n), "port") {
			t.Errorf("65, %d in a row: %d, %d", n, e, at)
		}
	}
}

// The same test, written otherwise, counts once, whatever kind it is of; another one counts.
func TestCheckCountsEachTestOnce(t *testing.T) {
	s := ports(63, 1)
	for _, x := range []struct{ first, same, other string }{
		{`addr in {10.0.0.0/7}`, `addr in {11.0.0.0/8, 10.0.0.0/8, 11.1.1.1}`, `addr in {10.0.0.0/8}`},
		{`port in {80-90}`, `port in {90, 80-89, 85}`, `port in {80-89}`},
		{`method in {GET, PUT}`, `method in {PUT, GET, PUT}`, `method in {GET}`},
		{`path ~ "[a]"`, `path ~ "[a-a]"`, `path ~ "a"`},
		{`path ~ "\\a"`, `path ~ "a"`, `path ~ "?"`},
		{`header "a" ~ "[a]"`, `header "a" ~ "[a-a]"`, `header "a" ~ ""`},
		{`header "a" ~ ""`, `header "a" ~ ""`, `header "b" ~ ""`},
		{`has "a"`, `has "a"`, `has "b"`},
		{`has "a"`, `has "a"`, `header "a" ~ ""`},
	} {
		all := s + "allow a when " + x.first + " or " + x.same + ";"
		if _, e, at := check.Accept(all); e != api.OK || at != 0 {
			t.Errorf("%s, %s: %d, %d", x.first, x.same, e, at)
		}
		all = s + "allow a when " + x.first + " or "
		if _, e, at := check.Accept(all + x.other + ";"); e != api.ErrCheckMany || at != len(all) {
			t.Errorf("%s, %s: %d, %d", x.first, x.other, e, at)
		}
	}
}

func TestCheckOfAnyByteInAHeadersName(t *testing.T) {
	for b := range 256 {
		for _, name := range []string{string([]byte{byte(b)}), "a" + string([]byte{byte(b)}), string([]byte{byte(b)}) + "a"} {
			for _, c := range []api.Cond{{Kind: api.CondHas, Name: name, At: 8}, {Kind: api.CondHeader, Name: name, At: 8}} {
				want := api.OK
				at := 0
				switch {
				case b < 32 || b > 126:
					want = api.ErrSyntaxTree
				case !nameForm.MatchString(name):
					want, at = api.ErrCheckHeader, 8
				}
				p := api.Policy{Items: []api.Item{{Kind: api.ItemDeny, Name: "a", Cond: c, At: 5}}}
				if e, is := check.Check(p); e != want || is != at {
					t.Errorf("%q: %d, %d", name, e, is)
				}
			}
		}
	}
}

func TestCheckByChance(t *testing.T) {
	came := map[api.Errno]int{}
	r := rand.New(rand.NewSource(1))
	for i := range 12000 {
		m := &maker{Rand: r, parts: []int{6, 30, 100, 1000}[i%4], headers: 3 + i%5}
		came[look(t, m.policy([]int{3, 6, 20}[i%3]))]++
	}
	for _, e := range []api.Errno{api.OK, api.ErrCheckTwice, api.ErrCheckNone, api.ErrCheckRange, api.ErrCheckGlob, api.ErrCheckHeader, api.ErrCheckMany} {
		if came[e] < 300 {
			t.Errorf("error %d came up %d times alone", e, came[e])
		}
	}
}

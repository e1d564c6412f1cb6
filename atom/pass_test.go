package atom_test

import (
	"math/rand"
	"slices"
	"strings"
	"testing"

	"lychgate/api"
	"lychgate/atom"
)

// checkTest holds what a request passes against the condition as it is written.
func checkTest(t *testing.T, c api.Cond, q api.Request) {
	t.Helper()
	a, e := atom.Of(c)
	if e != api.OK {
		t.Fatalf("Of(%+v): error %d", c, e)
	}
	if is, e := atom.Test(a, q); e != api.OK || is != wordsHolds(c, q) {
		t.Fatalf("Test(%s, %+v): %t, error %d", told(a), q, is, e)
	}
}

func TestPassesExamples(t *testing.T) {
	q := api.Request{Method: "GET", Path: "/a/b", Addr: 167772161, Port: 80, Headers: []api.Field{{Name: "e"}, {Name: "k", Value: "on"}}}
	for s, want := range map[string]bool{
		"addr in {10.0.0.0/8}": true, "addr in {10.0.0.0, 11.0.0.0/8}": false, "addr in {10.0.0.1}": true, "addr in {10.0.0.0, 10.0.0.2}": false,
		"port in {80}": true, "port in {79, 81}": false, "port in {81-65535, 0-80}": true,
		"method in {GET}": true, "method in {GETS, GE, PUT}": false, "method in {PUT, GET}": true,
		`path ~ "/a/*"`: true, `path ~ "/*"`: false, `path ~ "/**"`: true, `path ~ ""`: false,
		`header "k" ~ "o?"`: true, `header "k" ~ ""`: false, `header "e" ~ "*"`: true, `header "e" ~ ""`: true, `header "x" ~ "*"`: false, `header "x" ~ ""`: false,
		`has "e"`: true, `has "k"`: true, `has "x"`: false,
	} {
		c := cond(t, s)
		a, _ := atom.Of(c)
		if is, e := atom.Test(a, q); is != want || e != api.OK {
			t.Errorf("%s: %t, error %d", s, is, e)
		}
		checkTest(t, c, q)
	}
}

func TestPassesByChance(t *testing.T) {
	r := rand.New(rand.NewSource(4))
	for range 20000 {
		checkTest(t, randomCond(r), randomRequest(r))
	}
}

// At the ends of spans, and beside them.
func TestPassesAtTheEnds(t *testing.T) {
	r := rand.New(rand.NewSource(5))
	for range 2000 {
		c := randomCond(r)
		for _, n := range turns(c) {
			for _, n := range []int{n - 1, n, n + 1} {
				q := randomRequest(r)
				if n >= 0 && n <= 1<<32-1 {
					q.Addr = n
				}
				if n >= 0 && n <= 65535 {
					q.Port = n
				}
				checkTest(t, c, q)
			}
		}
	}
}

// Long texts are matched, too.
func TestPassesLongTexts(t *testing.T) {
	long := strings.Repeat("/ab", 20000)
	q := api.Request{Method: "GET", Path: long, Headers: []api.Field{{Name: "a", Value: long}}}
	for _, s := range []string{`path ~ "**b"`, `path ~ "**a"`, `path ~ "/*/**/a?"`, `path ~ "*"`, `header "a" ~ "**/[a]b"`, `header "a" ~ "**/[b]b"`} {
		checkTest(t, cond(t, s), q)
	}
}

func TestWrongRequests(t *testing.T) {
	right := api.Request{Method: "GET", Path: "/a", Addr: 1, Port: 80, Headers: []api.Field{{Name: "a", Value: "b"}, {Name: "b"}}}
	for i, change := range []func(q *api.Request){
		func(q *api.Request) { q.Method = "" },
		func(q *api.Request) { q.Method = "get" },
		func(q *api.Request) { q.Path = "/a/" },
		func(q *api.Request) { q.Path = "" },
		func(q *api.Request) { q.Addr = -1 },
		func(q *api.Request) { q.Addr = 1 << 32 },
		func(q *api.Request) { q.Port = 65536 },
		func(q *api.Request) { q.Headers[0].Name = "A" },
		func(q *api.Request) { q.Headers[0].Name = "b" },
		func(q *api.Request) { q.Headers[1].Value = " " },
	} {
		q := right
		q.Headers = slices.Clone(q.Headers)
		change(&q)
		for _, s := range []string{"addr in {0.0.0.0/0}", "port in {80}", "method in {GET}", `path ~ "**"`, `header "a" ~ "**"`, `has "b"`} {
			a, _ := atom.Of(cond(t, s))
			if is, e := atom.Test(a, right); !is || e != api.OK {
				t.Errorf("%s: %t, error %d", s, is, e)
			}
			if is, e := atom.Test(a, q); is || e != api.ErrArg {
				t.Errorf("%s, change %d: %t, error %d", s, i, is, e)
			}
		}
	}
}

func TestWrongTests(t *testing.T) {
	r := rand.New(rand.NewSource(6))
	wrong := 0
	for range 20000 {
		a, _ := wordsOf(randomCond(r))
		a = changed(r, changed(r, a))
		q := randomRequest(r)
		is, e := atom.Test(a, q)
		if wordsRight(a) != (e == api.OK) || e != api.OK && (is || e != api.ErrArg) {
			t.Fatalf("Test(%s, %+v): %t, error %d", told(a), q, is, e)
		}
		if e != api.OK {
			wrong++
		}
	}
	if wrong < 2000 {
		t.Errorf("only %d were wrong", wrong)
	}
}

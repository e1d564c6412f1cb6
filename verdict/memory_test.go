package verdict_test

import (
	"fmt"
	"math/rand"
	"slices"
	"sync"
	"testing"

	"lychgate/api"
	"lychgate/verdict"
)

const each = `let n = has "x-y" or not true; allow x when (addr in {1.2.3.4, 10.0.0.0/8} or port in {80, 1-9}) and n or method in {PUT, GET, GET} or path ~ "/[ab][!c]*" or header "host" ~ "[x]" or has "key"; deny y when n and port in {9};`

func TestAnswersAreNewMemory(t *testing.T) {
	p := accepted(t, each)
	q := api.Request{Method: "GET", Path: "/"}
	first, _ := verdict.Holds(p, q)
	second, _ := verdict.Holds(p, q)
	want := []bool{false, true, false}
	first = first[:cap(first)]
	for i := range first {
		first[i] = i >= 3 || !want[i]
	}
	third, _ := verdict.Holds(p, q)
	if !slices.Equal(second, want) || !slices.Equal(third, want) {
		t.Error("answers share memory", second, third)
	}
}

func withRoom[T any](l []T, mark T) []T {
	return append(slices.Clone(l), mark)[:len(l)]
}

// roomy is a condition whose lists have spare room, with marks in it.
func roomy(c api.Cond) api.Cond {
	c.Prefixes, c.Spans, c.Names = withRoom(c.Prefixes, api.Prefix{Addr: 77}), withRoom(c.Spans, api.Span{Lo: 77}), withRoom(c.Names, "room")
	var kids []api.Cond
	for _, kid := range c.Kids {
		kids = append(kids, roomy(kid))
	}
	c.Kids = withRoom(kids, api.Cond{Kind: 77})
	return c
}

// whole tells all of a condition, its spare room too.
func whole(c api.Cond) string {
	s := fmt.Sprint(c.Kind, c.Name, c.Text, c.At, c.Prefixes[:cap(c.Prefixes)], c.Spans[:cap(c.Spans)], c.Names[:cap(c.Names)])
	for _, kid := range c.Kids {
		s += whole(kid)
	}
	return s + fmt.Sprint(c.Kids[:cap(c.Kids)])
}

func TestArgumentsAreNotWrittenInto(t *testing.T) {
	r := rand.New(rand.NewSource(8))
	for i := range 600 {
		p, q := randomPolicy(r, 6), randomRequest(r)
		if i%4 == 0 {
			p = accepted(t, each)
		}
		for k := range p.Items {
			p.Items[k].Cond = roomy(p.Items[k].Cond)
		}
		p.Items = withRoom(p.Items, api.Item{Kind: 77})
		q.Headers = withRoom(q.Headers, api.Field{Name: "room"})
		tell := func() string {
			s := fmt.Sprint(p.Items[:cap(p.Items)], q, q.Headers[:cap(q.Headers)])
			for _, x := range p.Items {
				s += whole(x.Cond)
			}
			return s
		}
		before := tell()
		verdict.Judge(p, q)
		verdict.Holds(p, q)
		if tell() != before {
			t.Fatal("an argument was written into")
		}
	}
}

func TestCallsSideBySide(t *testing.T) {
	p := accepted(t, each)
	q := api.Request{Method: "GET", Path: "/", Port: 9, Headers: []api.Field{{Name: "x-y"}}}
	var all sync.WaitGroup
	for range 8 {
		all.Add(1)
		go func() {
			defer all.Done()
			for range 30 {
				v, at, e := verdict.Judge(p, q)
				l, f := verdict.Holds(p, q)
				if v != api.Deny || at != 2 || e != api.OK || f != api.OK || !slices.Equal(l, []bool{true, true, true}) {
					t.Error(v, at, e, l, f)
				}
			}
		}()
	}
	all.Wait()
}

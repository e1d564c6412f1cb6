package check_test

import (
	"math/rand"
	"slices"
	"testing"

	"lychgate/api"
	"lychgate/atom"
	"lychgate/check"
	"lychgate/syntax"
)

// asked are the names of headers that tests ask, rising, each once.
func asked(l []api.Atom) []string {
	var names []string
	for _, a := range l {
		if a.Kind == api.CondHeader || a.Kind == api.CondHas {
			names = append(names, a.Name)
		}
	}
	slices.Sort(names)
	return slices.Compact(names)
}

func TestWhatIsTakenHasFewTests(t *testing.T) {
	r := rand.New(rand.NewSource(4))
	most := 0
	for i := range 3000 {
		m := &maker{Rand: r, parts: 2000, headers: 1 + i%5}
		p := m.policy([]int{4, 20}[i%2])
		if e, _ := check.Check(p); e != api.OK {
			continue
		}
		l, e := atom.All([]api.Policy{p})
		names, f := check.Headers(p)
		if e != api.OK || f != api.OK || len(l) > 64 || len(names) > 4 || !slices.Equal(asked(l), names) {
			t.Fatalf("%+v: %d tests, errors %d and %d, headers %q", p, len(l), e, f, names)
		}
		most = max(most, len(l))
	}
	if most < 40 {
		t.Errorf("at most %d tests", most)
	}
}

// faulty is the item at which something is wrong: the first one with which the beginning is refused.
func faulty(p api.Policy) int {
	for n := range len(p.Items) {
		if e, _ := check.Check(api.Policy{Items: p.Items[:n+1]}); e != api.OK {
			return n
		}
	}
	return len(p.Items)
}

func TestWhatIsBehindAFaultDoesNotMatter(t *testing.T) {
	r := rand.New(rand.NewSource(5))
	for i := range 3000 {
		m := &maker{Rand: r, parts: []int{20, 100, 2000}[i%3], headers: 3 + i%3}
		p, q := m.policy(6), m.policy(3)
		e, at := check.Check(p)
		n := faulty(p)
		if (e == api.OK) != (n == len(p.Items)) {
			t.Fatalf("%+v: error %d, its beginnings %d", p, e, n)
		}
		if e == api.OK {
			continue
		}
		other := api.Policy{Items: append(slices.Clone(p.Items[:n+1]), q.Items...)}
		if !syntax.Right(other) {
			continue
		}
		if f, place := check.Check(other); f != e || place != at {
			t.Fatalf("%+v: %d, %d; with others behind: %d, %d", p, e, at, f, place)
		}
	}
}

// moved is a condition all of whose places are others.
func moved(c api.Cond, by int) api.Cond {
	var kids []api.Cond
	for _, kid := range c.Kids {
		kids = append(kids, moved(kid, by))
	}
	c.Kids = kids
	c.At += by
	return c
}

func TestPlacesMatterForThePlaceAlone(t *testing.T) {
	r := rand.New(rand.NewSource(6))
	for i := range 2000 {
		m := &maker{Rand: r, parts: []int{20, 100, 2000}[i%3], headers: 3 + i%3}
		p := m.policy(6)
		var q api.Policy
		for _, x := range p.Items {
			x.At, x.Cond = x.At+7, moved(x.Cond, 7)
			q.Items = append(q.Items, x)
		}
		e, at := check.Check(p)
		f, place := check.Check(q)
		if e != api.OK {
			at += 7
		}
		if f != e || place != at {
			t.Fatalf("%+v: %d, %d; moved: %d, %d", p, e, at, f, place)
		}
		l, e := check.Headers(p)
		k, f := check.Headers(q)
		if e != f || !slices.Equal(l, k) {
			t.Fatalf("%+v: headers %q, moved %q", p, l, k)
		}
	}
}

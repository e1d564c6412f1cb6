package atom_test

import (
	"math/rand"
	"slices"
	"testing"

	"lychgate/api"
	"lychgate/atom"
)

// M5: what is told is right, and no two of All's are the same.
func TestTestsThatAreToldAreRight(t *testing.T) {
	r := rand.New(rand.NewSource(9))
	for range 300 {
		l, _ := atom.All([]api.Policy{randomPolicy(r), randomPolicy(r)})
		for i, a := range l {
			if !atom.Right(a) {
				t.Fatalf("%s is not right", told(a))
			}
			if slices.ContainsFunc(l[:i], func(b api.Atom) bool { return atom.Same(a, b) }) {
				t.Fatalf("%s is told twice", told(a))
			}
		}
	}
}

// M5: two conditions of addresses, of ports, of methods have the same test just if the same requests pass them.
func TestSameTestsAreSameRequests(t *testing.T) {
	r := rand.New(rand.NewSource(10))
	same := 0
	for range 20000 {
		c := randomCond(r)
		for c.Kind > api.CondMethod {
			c = randomCond(r)
		}
		d := alike(r, c)
		a, e := atom.Of(c)
		b, f := atom.Of(d)
		if e != api.OK || f != api.OK || atom.Same(a, b) != samePass(c, d) {
			t.Fatalf("%+v and %+v: %s and %s", c, d, told(a), told(b))
		}
		if atom.Same(a, b) {
			same++
		}
	}
	if same < 2000 || same > 19500 {
		t.Errorf("%d were the same", same)
	}
}

// alike is a condition that says nearly the same as another one, or just the same: in another order, halved, with something twice, with one more or one less.
func alike(r *rand.Rand, c api.Cond) api.Cond {
	c.Prefixes, c.Spans, c.Names = mixed(r, c.Prefixes), mixed(r, c.Spans), mixed(r, c.Names)
	if r.Intn(2) == 0 && len(c.Prefixes) > 0 && len(c.Prefixes) < 32 {
		p := &c.Prefixes[0]
		if p.Bits < 32 {
			p.Bits++
			other := api.Prefix{Addr: p.Addr + 1<<(32-p.Bits), Bits: p.Bits}
			c.Prefixes = append(c.Prefixes, pick(r, other, other, *p))
		}
	}
	if r.Intn(2) == 0 && len(c.Spans) > 0 && len(c.Spans) < 32 {
		s := &c.Spans[0]
		middle := (s.Lo + s.Hi) / 2
		if middle < s.Hi {
			c.Spans = append(c.Spans, api.Span{Lo: middle + pick(r, 1, 1, 0), Hi: s.Hi})
			s.Hi = middle
		}
	}
	return c
}

// mixed is a list in another order; now and then with something twice, or with one less.
func mixed[T any](r *rand.Rand, l []T) []T {
	l = slices.Clone(l)
	r.Shuffle(len(l), func(i, k int) { l[i], l[k] = l[k], l[i] })
	if len(l) > 0 && len(l) < 32 && r.Intn(2) == 0 {
		l = append(l, l[0])
	}
	if len(l) > 1 && r.Intn(3) == 0 {
		l = l[1:]
	}
	return l
}

// samePass: do the same requests pass both conditions, of one kind? All that can change is at their turns, and at the methods that they name.
func samePass(c, d api.Cond) bool {
	for _, n := range append(turns(c), turns(d)...) {
		if wordsHas(c, n) != wordsHas(d, n) {
			return false
		}
	}
	for _, s := range append(slices.Clone(c.Names), d.Names...) {
		if slices.Contains(c.Names, s) != slices.Contains(d.Names, s) {
			return false
		}
	}
	return true
}

// Two patterns that match the same are two tests; two texts of one pattern are one.
func TestPatternsAreNotMadeOne(t *testing.T) {
	for _, x := range []struct {
		one, two string
		same     bool
	}{{"**", "****", false}, {"[a]", "a", false}, {"***", "**", false}, {"[a-c]", "[cab]", true}, {`\a`, "a", true}} {
		for _, c := range []api.Cond{{Kind: api.CondPath}, {Kind: api.CondHeader, Name: "k"}} {
			c.Text = x.one
			a, _ := atom.Of(c)
			c.Text = x.two
			b, _ := atom.Of(c)
			if atom.Same(a, b) != x.same {
				t.Errorf("%s and %s: %s and %s", x.one, x.two, told(a), told(b))
			}
		}
	}
}

package atom_test

import (
	"fmt"
	"math/rand"
	"strings"
	"testing"

	"lychgate/api"
	"lychgate/atom"
	"lychgate/syntax"
)

// wordsAll are the tests of some policies; false, where one of their conditions has none and must.
func wordsAll(l []api.Policy) ([]api.Atom, bool) {
	var left []api.Cond
	for _, p := range l {
		for _, x := range p.Items {
			left = append(left, x.Cond)
		}
	}
	var out []api.Atom
	there := map[string]bool{}
	for len(left) > 0 {
		c := left[0]
		left = append(append([]api.Cond{}, c.Kids...), left[1:]...)
		if c.Kind < api.CondAddr {
			continue
		}
		a, is := wordsOf(c)
		if !is {
			return nil, false
		}
		if !there[told(a)] {
			out = append(out, a)
		}
		there[told(a)] = true
	}
	return out, len(l) <= 2
}

func toldAll(l []api.Atom) string {
	s := ""
	for _, a := range l {
		s += told(a) + "\n"
	}
	return s
}

// checkAll holds All of right policies against the words.
func checkAll(t *testing.T, l []api.Policy) {
	t.Helper()
	want, is := wordsAll(l)
	if !is {
		want = nil
	}
	got, e := atom.All(l)
	if is != (e == api.OK) || !is && e != api.ErrArg || toldAll(got) != toldAll(want) {
		t.Fatalf("All(%+v): %s, error %d; the words: %s, %t", l, toldAll(got), e, toldAll(want), is)
	}
}

func TestAllExamples(t *testing.T) {
	p := policy(t, `let x = true or port in {5}; deny y when not port in {5-5} and has "a";`)
	q := policy(t, `allow z when (has "b" or has "a") and z;`)
	for _, x := range []struct {
		l    []api.Policy
		want string
	}{
		{nil, ""},
		{[]api.Policy{{}, {}}, ""},
		{[]api.Policy{p}, `8 "" 5-5|12 "a"`},
		{[]api.Policy{q}, `12 "b"|12 "a"`},
		{[]api.Policy{p, q}, `8 "" 5-5|12 "a"|12 "b"`},
		{[]api.Policy{q, p}, `12 "b"|12 "a"|8 "" 5-5`},
		{[]api.Policy{p, p}, `8 "" 5-5|12 "a"`},
		{[]api.Policy{policy(t, `let a = has "c" and (not (has "b" or has "a") and has "d"); let b = has "b"; let c = b; let d = false; deny e when has "0";`)}, `12 "c"|12 "b"|12 "a"|12 "d"|12 "0"`},
		{[]api.Policy{policy(t, `let a = has "a" or header "a" ~ "" or path ~ "" or path ~ "*" or path ~ "**" or header "b" ~ "";`)}, `12 "a"|11 "a"|10 ""|10 "" (4 0 false)|10 "" (5 0 false)|11 "b"`},
		{[]api.Policy{policy(t, `let a = addr in {0.0.0.0} or port in {0} or addr in {0.0.0.0/32, 0.0.0.0};`)}, `7 "" 0-0|8 "" 0-0`},
	} {
		got, e := atom.All(x.l)
		want := x.want
		if want != "" {
			want = strings.ReplaceAll(want, "|", "\n") + "\n"
		}
		if e != api.OK || toldAll(got) != want {
			t.Errorf("All(%+v): %s, error %d", x.l, toldAll(got), e)
		}
		checkAll(t, x.l)
	}
}

func TestAllRefuses(t *testing.T) {
	good := policy(t, `allow a when has "a";`)
	has := api.Cond{Kind: api.CondHas, Name: "a"}
	one := func(c api.Cond) api.Policy {
		return api.Policy{Items: []api.Item{{Kind: api.ItemLet, Name: "a", Cond: has}, {Kind: api.ItemAllow, Name: "a", Cond: c}}}
	}
	deep := has
	for range 16 {
		deep = api.Cond{Kind: api.CondNot, Kids: []api.Cond{deep}}
	}
	for i, bad := range []api.Policy{
		{Items: []api.Item{{}}},
		{Items: []api.Item{{Kind: api.ItemLet, Cond: has}}},
		{Items: []api.Item{{Kind: api.ItemLet, Name: "let", Cond: has}}},
		{Items: []api.Item{{Kind: 4, Name: "a", Cond: has}}},
		{Items: make([]api.Item, 101)},
		one(api.Cond{}), one(api.Cond{Kind: 13}), one(api.Cond{Kind: -1}), one(api.Cond{Kind: api.CondName}),
		one(api.Cond{Kind: api.CondTrue, Text: "a"}), one(api.Cond{Kind: api.CondFalse, Kids: []api.Cond{has}}),
		one(api.Cond{Kind: api.CondAnd, Kids: []api.Cond{has}}), one(api.Cond{Kind: api.CondNot, Kids: []api.Cond{has, has}}), one(api.Cond{Kind: api.CondOr}),
		one(deep),
		policy(t, `allow z when not not path ~ "[";`),
		policy(t, `allow z when has "a" and (has "b" or has "C");`),
		policy(t, `let z = port in {9-5} or true;`),
		policy(t, `deny z when true; allow y when header "a" ~ "[";`),
	} {
		for _, l := range [][]api.Policy{{bad}, {bad, good}, {good, bad}, {bad, bad}, {{}, bad}} {
			if got, e := atom.All(l); e != api.ErrArg || len(got) > 0 {
				t.Errorf("%d: %s, error %d", i, toldAll(got), e)
			}
		}
	}
	for _, n := range []int{3, 4, 100} {
		if got, e := atom.All(make([]api.Policy, n)); e != api.ErrArg || len(got) > 0 {
			t.Errorf("%d policies: %s, error %d", n, toldAll(got), e)
		}
	}
	if got, e := atom.All([]api.Policy{good, good, good}); e != api.ErrArg || len(got) > 0 {
		t.Errorf("three policies: %s, error %d", toldAll(got), e)
	}
}

// randomTree is a condition that goes down so far at most.
func randomTree(r *rand.Rand, deep int) api.Cond {
	kinds := r.Intn(10)
	switch {
	case deep == 1 || kinds < 3:
		if r.Intn(4) == 0 {
			return pick(r, api.Cond{Kind: api.CondTrue}, api.Cond{Kind: api.CondFalse}, api.Cond{Kind: api.CondName, Name: "x"})
		}
		return smallCond(r)
	case kinds < 5:
		return api.Cond{Kind: api.CondNot, Kids: []api.Cond{randomTree(r, deep-1)}}
	}
	c := api.Cond{Kind: pick(r, api.CondAnd, api.CondOr), Kids: []api.Cond{randomTree(r, deep-1)}}
	c.Kids = append(c.Kids, some(r, 3, func() api.Cond { return randomTree(r, deep-1) })...)
	return c
}

// smallCond is an atomic condition of few, so that many are there again.
func smallCond(r *rand.Rand) api.Cond {
	c := randomCond(r)
	for len(c.Prefixes)+len(c.Spans)+len(c.Names) > 2 || len(c.Text) > 2 {
		c = randomCond(r)
	}
	return c
}

func randomPolicy(r *rand.Rand) api.Policy {
	for {
		var p api.Policy
		for i := range r.Intn(6) {
			p.Items = append(p.Items, api.Item{Kind: 1 + r.Intn(3), Name: fmt.Sprintf("n%d", i), Cond: randomTree(r, 4)})
		}
		if syntax.Right(p) {
			return p
		}
	}
}

func TestAllByChance(t *testing.T) {
	r := rand.New(rand.NewSource(7))
	for range 1500 {
		p, q := randomPolicy(r), randomPolicy(r)
		checkAll(t, []api.Policy{p})
		checkAll(t, []api.Policy{p, q})
		checkAll(t, []api.Policy{q, p})
	}
}

// withFault is a right policy one of whose conditions has no test.
func withFault(r *rand.Rand) api.Policy {
	p := randomPolicy(r)
	bad := pick(r, api.Cond{Kind: api.CondHas, Name: "A"}, api.Cond{Kind: api.CondPort, Spans: []api.Span{{Lo: 2, Hi: 1}}}, api.Cond{Kind: api.CondPath, Text: "["}, api.Cond{Kind: api.CondHeader, Name: "a", Text: "["})
	at := r.Intn(len(p.Items) + 1)
	p.Items = append(p.Items[:at:at], append([]api.Item{{Kind: api.ItemDeny, Name: "z", Cond: bad}}, p.Items[at:]...)...)
	return p
}

func TestAllByChanceRefuses(t *testing.T) {
	r := rand.New(rand.NewSource(8))
	for range 300 {
		p, q := withFault(r), randomPolicy(r)
		for _, l := range [][]api.Policy{{p}, {p, q}, {q, p}} {
			if got, e := atom.All(l); e != api.ErrArg || len(got) > 0 {
				t.Fatalf("All(%+v): %s, error %d", l, toldAll(got), e)
			}
		}
	}
}

// As many tests as a source can say, all unlike, in both policies.
func TestAllOfManyTests(t *testing.T) {
	full := func(first byte) api.Policy {
		var s strings.Builder
		for i := range 26 {
			s.WriteString(fmt.Sprintf("deny z%c when ", 'a'+i))
			for k := range 26 {
				if k > 0 {
					s.WriteString(" or ")
				}
				fmt.Fprintf(&s, `has"%c%c%c"`, first, 'a'+i, 'a'+k)
			}
			s.WriteString(";")
			if s.Len() > 7500 {
				break
			}
		}
		return policy(t, s.String())
	}
	l := []api.Policy{full('a'), full('b')}
	checkAll(t, l)
	if got, _ := atom.All(l); len(got) < 1000 {
		t.Errorf("%d tests", len(got))
	}
}

package syntax_test

import (
	"math/rand"
	"testing"

	"lychgate/api"
	"lychgate/syntax"
)

func wantSame(t *testing.T, what string, a, b api.Policy, want bool) {
	t.Helper()
	if syntax.Same(a, b) != want || syntax.Same(b, a) != want {
		t.Errorf("%s: same %v", what, !want)
	}
}

func TestSameOfAnyPolicies(t *testing.T) {
	for what, change := range map[string]func(x *api.Item){
		"item's kind": func(x *api.Item) { x.Kind++ }, "item's name": func(x *api.Item) { x.Name += "b" }, "kind": func(x *api.Item) { x.Cond.Kind++ }, "name": func(x *api.Item) { x.Cond.Name = "N" }, "text": func(x *api.Item) { x.Cond.Text = "" },
		"a prefix": func(x *api.Item) { x.Cond.Prefixes[0].Bits++ }, "a prefix's address": func(x *api.Item) { x.Cond.Prefixes[0].Addr++ }, "prefixes": func(x *api.Item) { x.Cond.Prefixes = nil }, "a span": func(x *api.Item) { x.Cond.Spans[0].Hi++ }, "a span's beginning": func(x *api.Item) { x.Cond.Spans[0].Lo-- }, "spans": func(x *api.Item) { x.Cond.Spans = append(x.Cond.Spans, api.Span{}) },
		"a method": func(x *api.Item) { x.Cond.Names[0] = "PUT" }, "names": func(x *api.Item) { x.Cond.Names = append(x.Cond.Names, "") }, "a kid": func(x *api.Item) { x.Cond.Kids[1].Kind++ }, "a kid's kid": func(x *api.Item) { x.Cond.Kids[1].Kids = []api.Cond{{}} }, "kids": func(x *api.Item) { x.Cond.Kids = x.Cond.Kids[:1] }, "kids' order": func(x *api.Item) { x.Cond.Kids[0], x.Cond.Kids[1] = x.Cond.Kids[1], x.Cond.Kids[0] },
	} {
		a, b := one(full()), one(full())
		wantSame(t, what+" ahead", a, b, true)
		change(&b.Items[0])
		wantSame(t, what, a, b, false)
		a.Items, b.Items = append(one(bare(1)).Items, a.Items...), append(one(bare(1)).Items, b.Items...)
		wantSame(t, what+" in the second item", a, b, false)
		a, b = one(deep(a.Items[1].Cond, api.CondAnd, 3)), one(deep(b.Items[1].Cond, api.CondAnd, 3))
		wantSame(t, what+" deep inside", a, b, what[:4] == "item")
	}
	a, b := one(full()), one(full())
	b.Items[0].At, b.Items[0].Cond.At, b.Items[0].Cond.Kids[0].At = 1, -2, 3
	wantSame(t, "places", a, b, true)
	wantSame(t, "none", api.Policy{}, api.Policy{Items: []api.Item{}}, true)
	wantSame(t, "one more item", a, api.Policy{Items: append(b.Items, api.Item{})}, false)
	wantSame(t, "no item", a, api.Policy{}, false)
	wantSame(t, "empty lists", one(api.Cond{}), one(api.Cond{Prefixes: []api.Prefix{}, Spans: []api.Span{}, Names: []string{}, Kids: []api.Cond{}}), true)
}

func TestSameOfDeepPolicies(t *testing.T) {
	a, b, c := deep(bare(1), api.CondNot, 1<<16), deep(bare(1), api.CondNot, 1<<16), deep(bare(2), api.CondNot, 1<<16)
	wantSame(t, "deep", one(a), one(b), true)
	wantSame(t, "unlike deep inside", one(a), one(c), false)
	wantSame(t, "deeper", one(a), one(a.Kids[0]), false)
}

func TestSameOfRandomPolicies(t *testing.T) {
	r := rand.New(rand.NewSource(15))
	for range 5000 {
		p, q := randomPolicy(r), randomPolicy(r)
		s, _ := laid(p, nil)
		u, _ := laid(q, nil)
		wantSame(t, s+u, p, q, s == u)
		_, again := laid(p, r)
		wantSame(t, s, p, again, true)
	}
}

package verdict_test

import (
	"fmt"
	"math/rand"
	"slices"
	"testing"

	"lychgate/api"
	"lychgate/atom"
	"lychgate/check"
	"lychgate/verdict"
)

// says is what a policy says of a request.
func says(t *testing.T, p api.Policy, q api.Request) int {
	t.Helper()
	v, _, e := verdict.Judge(p, q)
	if e != api.OK {
		t.Fatalf("Judge(%+v, %+v): error %d", p, q, e)
	}
	return v
}

// Requests that pass the same tests of a policy are judged alike, whatever else they have.
func TestTestsAloneMatter(t *testing.T) {
	r := rand.New(rand.NewSource(4))
	alike := 0
	for range 300 {
		p := randomPolicy(r, 3)
		tests, _ := atom.All([]api.Policy{p})
		first := map[string]string{}
		for range 40 {
			q := randomRequest(r)
			passed := ""
			for _, a := range tests {
				is, _ := atom.Test(a, q)
				passed += fmt.Sprint(is)
			}
			v, at, _ := verdict.Judge(p, q)
			l, _ := verdict.Holds(p, q)
			now := fmt.Sprint(v, at, l)
			if want, is := first[passed]; is && want != now {
				t.Fatalf("%+v, %+v: %s; another one that passes the same: %s", p, q, now, want)
			} else if is {
				alike++
			}
			first[passed] = now
		}
	}
	if alike < 3000 {
		t.Errorf("%d alike alone", alike)
	}
}

// mixed is a policy whose rules stand in another order, anywhere among the lets, if each still has its lets ahead.
func mixed(r *rand.Rand, p api.Policy) api.Policy {
	isLet := func(x api.Item) bool { return x.Kind == api.ItemLet }
	for range 9 {
		q := api.Policy{Items: slices.DeleteFunc(slices.Clone(p.Items), func(x api.Item) bool { return !isLet(x) })}
		for _, x := range p.Items {
			if !isLet(x) {
				q.Items = slices.Insert(q.Items, r.Intn(len(q.Items)+1), x)
			}
		}
		if e, _ := check.Check(q); e == api.OK {
			return q
		}
	}
	return p
}

func TestTheOrderOfRulesDoesNotMatter(t *testing.T) {
	r := rand.New(rand.NewSource(5))
	others := 0
	for range 2000 {
		p, q := randomPolicy(r, 6), randomRequest(r)
		other := mixed(r, p)
		if fmt.Sprint(p) != fmt.Sprint(other) {
			others++
		}
		if v, w := says(t, p, q), says(t, other, q); v != w {
			t.Fatalf("%+v, %+v: %d, in another order %d", p, q, v, w)
		}
	}
	if others < 500 {
		t.Errorf("%d others alone", others)
	}
}

func TestOneMoreRule(t *testing.T) {
	r := rand.New(rand.NewSource(6))
	turned := map[int]int{}
	for i := range 4000 {
		p, q := randomPolicy(r, 4), randomRequest(r)
		rule := api.Item{Kind: []int{api.ItemAllow, api.ItemDeny}[i%2], Name: "more", Cond: tree(r, 3, nil)}
		more := api.Policy{Items: slices.Insert(slices.Clone(p.Items), r.Intn(len(p.Items)+1), rule)}
		if e, _ := check.Check(more); e != api.OK {
			continue
		}
		v, w := says(t, p, q), says(t, more, q)
		if v == w {
			continue
		}
		turned[rule.Kind]++
		if rule.Kind == api.ItemAllow && w != api.Allow || rule.Kind == api.ItemDeny && w != api.Deny {
			t.Fatalf("%+v, %+v: %d, with %+v: %d", p, q, v, rule, w)
		}
	}
	if turned[api.ItemAllow] < 100 || turned[api.ItemDeny] < 100 {
		t.Error(turned)
	}
}

// A rule that denies is not outdone, wherever it and those that allow stand.
func TestDenyIsNotOutdone(t *testing.T) {
	r := rand.New(rand.NewSource(7))
	for range 1000 {
		p, q := randomPolicy(r, 5), randomRequest(r)
		rule := api.Item{Kind: api.ItemDeny, Name: "more", Cond: api.Cond{Kind: api.CondTrue}}
		for at := range len(p.Items) + 1 {
			more := api.Policy{Items: slices.Insert(slices.Clone(p.Items), at, rule)}
			if v, place, e := verdict.Judge(more, q); v != api.Deny || place < 0 || place > at || e != api.OK {
				t.Fatalf("%+v, %+v: %d, %d, error %d", more, q, v, place, e)
			}
		}
	}
}

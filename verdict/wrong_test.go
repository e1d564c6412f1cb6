package verdict_test

import (
	"math/rand"
	"slices"
	"strings"
	"testing"

	"lychgate/api"
	"lychgate/check"
	"lychgate/request"
	"lychgate/syntax"
	"lychgate/verdict"
)

// refused: is ErrArg, and nothing beside it, what both calls answer?
func refused(t *testing.T, p api.Policy, r api.Request) {
	t.Helper()
	if v, at, e := verdict.Judge(p, r); v != 0 || at != 0 || e != api.ErrArg {
		t.Errorf("Judge(%+v, %+v): %d, %d, error %d", p, r, v, at, e)
	}
	if l, e := verdict.Holds(p, r); len(l) != 0 || e != api.ErrArg {
		t.Errorf("Holds(%+v, %+v): %v, error %d", p, r, l, e)
	}
}

var right = api.Request{Method: "GET", Path: "/a", Addr: 1, Port: 80, Headers: []api.Field{{Name: "a", Value: "b"}, {Name: "b"}}}

func TestWrongPolicies(t *testing.T) {
	for _, s := range []string{
		`allow a when true; allow a when true;`,
		`deny a when true; allow a when true;`,
		`deny a when true; let a = true;`,
		`deny a when b; let b = true;`,
		`let a = a;`,
		`deny a when true; allow b when a;`,
		`deny a when true or port in {2-1};`,
		`deny a when true; allow b when port in {65536};`,
		`allow a when path ~ "[";`,
		`let b = false and header "a" ~ "\\";`,
		`allow a when has "A";`,
		`allow a when header "" ~ "*";`,
		`allow a when has "a" or has "b" or has "c" or has "d" or has "e";`,
		`deny x when ` + strings.Repeat("true or ", 31) + `true; deny y when zz;`,
	} {
		p, e, _ := syntax.Parse(s)
		if e != api.OK {
			t.Fatal(s, e)
		}
		refused(t, p, right)
		refused(t, p, api.Request{})
	}
	yes := api.Cond{Kind: api.CondTrue}
	for _, p := range []api.Policy{
		{Items: []api.Item{{}}},
		{Items: []api.Item{{Kind: 4, Name: "a", Cond: yes}}},
		{Items: []api.Item{{Kind: api.ItemDeny, Name: "A", Cond: yes}}},
		{Items: []api.Item{{Kind: api.ItemDeny, Name: "a", Cond: yes}, {Kind: api.ItemDeny, Name: "b", Cond: api.Cond{Kind: api.CondNot}}}},
		{Items: []api.Item{{Kind: api.ItemDeny, Name: "a", Cond: api.Cond{Kind: api.CondNot, Kids: []api.Cond{yes, yes}}}}},
		{Items: []api.Item{{Kind: api.ItemDeny, Name: "a", Cond: api.Cond{Kind: api.CondAnd}}}},
		{Items: []api.Item{{Kind: api.ItemDeny, Name: "a", Cond: api.Cond{Kind: api.CondOr, Kids: []api.Cond{yes}}}}},
		{Items: []api.Item{{Kind: api.ItemDeny, Name: "a", Cond: api.Cond{Kind: 13}}}},
		{Items: []api.Item{{Kind: api.ItemDeny, Name: "a", Cond: api.Cond{Kind: -1}}}},
		{Items: []api.Item{{Kind: api.ItemDeny, Name: "a", Cond: api.Cond{Kind: api.CondAddr}}}},
		{Items: []api.Item{{Kind: api.ItemDeny, Name: "a", Cond: api.Cond{Kind: api.CondTrue, Kids: []api.Cond{yes}}}}},
		{Items: make([]api.Item, 101)},
	} {
		refused(t, p, right)
	}
}

func TestWrongRequests(t *testing.T) {
	p := accepted(t, `let n = false; deny a when port in {80}; allow b when true;`)
	look(t, p, right)
	look(t, api.Policy{}, right)
	refused(t, p, api.Request{})
	for _, change := range []func(q *api.Request){
		func(q *api.Request) { q.Method = "" },
		func(q *api.Request) { q.Method = "get" },
		func(q *api.Request) { q.Method = "ABCDEFGHIJKLMNOPQ" },
		func(q *api.Request) { q.Path = "a" },
		func(q *api.Request) { q.Path = "/a/" },
		func(q *api.Request) { q.Path = "/%41" },
		func(q *api.Request) { q.Path = "" },
		func(q *api.Request) { q.Addr = -1 },
		func(q *api.Request) { q.Addr = 1 << 32 },
		func(q *api.Request) { q.Port = -1 },
		func(q *api.Request) { q.Port = 65536 },
		func(q *api.Request) { q.Headers[0].Name = "A" },
		func(q *api.Request) { q.Headers[0].Name = "b" },
		func(q *api.Request) { q.Headers[0].Name = "c" },
		func(q *api.Request) { q.Headers[1].Value = " " },
		func(q *api.Request) { q.Headers[1].Value = "a\n" },
		func(q *api.Request) { q.Headers = make([]api.Field, 65) },
	} {
		q := right
		q.Headers = slices.Clone(q.Headers)
		change(&q)
		refused(t, p, q)
		refused(t, api.Policy{}, q)
	}
}

// Whatever is changed in a policy or a request: both calls refuse just what one of the layers below does.
func TestChangedByChance(t *testing.T) {
	r := rand.New(rand.NewSource(3))
	wrong := 0
	for range 3000 {
		p, q := randomPolicy(r, 5), randomRequest(r)
		if r.Intn(2) == 0 && len(p.Items) > 0 {
			x := &p.Items[r.Intn(len(p.Items))]
			pick(r,
				func() { x.Kind = r.Intn(6) - 1 },
				func() { x.Name = pick(r, "n0", "n1", "", "N") },
				func() { x.Cond.Kind = r.Intn(15) - 1 },
				func() { x.Cond.Name = pick(r, "n0", "n1", "a", "") },
				func() { x.Cond.Kids = append(slices.Clone(x.Cond.Kids), api.Cond{Kind: r.Intn(4)}) },
				func() { x.Cond = api.Cond{Kind: api.CondNot, Kids: []api.Cond{x.Cond}} },
			)()
		}
		if r.Intn(3) == 0 {
			pick(r,
				func() { q.Method += pick(r, "", "A", "a") },
				func() { q.Path += pick(r, "/", "/a", "..", "%41", "%2F") },
				func() { q.Addr += pick(r, -1, 1) },
				func() { q.Port += pick(r, -1, 1) },
				func() { q.Headers = append(q.Headers, api.Field{Name: pick(r, "y", "zz", "Z")}) },
			)()
		}
		if e, _ := check.Check(p); e == api.OK && request.Right(q) {
			look(t, p, q)
			continue
		}
		wrong++
		refused(t, p, q)
	}
	if wrong < 500 || wrong > 2500 {
		t.Errorf("%d were wrong", wrong)
	}
}

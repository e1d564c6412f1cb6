package lower_test

import (
	"fmt"
	"math/rand"
	"slices"
	"strings"
	"testing"

	"lychgate/api"
	"lychgate/lower"
	"lychgate/space"
)

func wantJudge(t *testing.T, p api.Program, policy int, r api.Request, want int) {
	t.Helper()
	if v, e := lower.Judge(p, policy, r); v != want || e != api.OK {
		t.Errorf("policy %d, %+v: %d, error %d; want %d", policy, r, v, e, want)
	}
}

func wantNotJudged(t *testing.T, p api.Program, r api.Request) {
	t.Helper()
	for _, policy := range []int{0, 1, 7} {
		if v, e := lower.Judge(p, policy, r); v != 0 || e != api.ErrArg {
			t.Errorf("policy %d, %+v: %d, error %d", policy, r, v, e)
		}
	}
}

func TestJudge(t *testing.T) {
	p := program(t, `allow a when method in {GET} and path ~ "/pub/**"; deny b when addr in {10.0.0.0/8};`, `deny z when has "k"; allow y when path ~ "/pub/*"; allow x when false;`)
	for s, want := range map[string][2]int{
		"GET /pub/x 1.2.3.4:80\n\n":         {api.Allow, api.Allow},
		"GET /pub/x/y 1.2.3.4:80\n\n":       {api.Allow, api.Deny},
		"GET /pub/x 10.1.2.3:80\n\n":        {api.Deny, api.Allow},
		"PUT /pub/x 1.2.3.4:80\n\n":         {api.Deny, api.Allow},
		"GET /pub/x 1.2.3.4:80\nK: \n\n":    {api.Allow, api.Deny},
		"GET /x/../pub/a 1.2.3.4:80\n\n":    {api.Allow, api.Allow},
		"GET / 255.255.255.255:65535\n\n":   {api.Deny, api.Deny},
		"PUT /pub/x 10.0.0.0:0\nother:\n\n": {api.Deny, api.Allow},
	} {
		for policy := range 2 {
			wantJudge(t, p, policy, asked(t, s), want[policy])
		}
		for _, policy := range append(farNumbers(), 2) {
			wantJudge(t, p, policy, asked(t, s), api.Deny)
		}
	}
}

// A policy that has no rules, or none that allows, or none that holds.
func TestJudgeWithoutRules(t *testing.T) {
	r := asked(t, "GET / 1.2.3.4:80\n\n")
	for _, s := range []string{"", "let a = true;", "deny a when false;", "deny a when true;", "allow a when false;", "allow a when true; deny b when true;", "deny b when true; allow a when true;"} {
		wantJudge(t, program(t, s), 0, r, api.Deny)
		wantJudge(t, program(t, s), 1, r, api.Deny)
		wantJudge(t, program(t, s, "allow a when true;"), 1, r, api.Allow)
		wantJudge(t, program(t, "allow a when true;", s), 0, r, api.Allow)
		wantJudge(t, program(t, "allow a when true;", s), 1, r, api.Deny)
	}
}

func TestJudgeRefuses(t *testing.T) {
	p := program(t, chapter)
	good := api.Request{Method: "GET", Path: "/"}
	for _, change := range []func(r *api.Request){
		func(r *api.Request) { *r = api.Request{} },
		func(r *api.Request) { r.Method = "get" },
		func(r *api.Request) { r.Path = "/a/" },
		func(r *api.Request) { r.Addr = -1 },
		func(r *api.Request) { r.Port = 65536 },
		func(r *api.Request) { r.Headers = []api.Field{{Name: "K"}} },
		func(r *api.Request) { r.Headers = slices.Repeat([]api.Field{{Name: "k"}}, 2) },
	} {
		r := good
		change(&r)
		wantNotJudged(t, p, r)
		wantNotJudged(t, program(t, ""), r)
		wantNotJudged(t, api.Program{}, r)
	}
	wantNotJudged(t, api.Program{}, good)
	p.Nodes[2].Kids = []int{1, 1}
	wantNotJudged(t, p, good)
}

// What a program says hangs on the classes in the order of its levels.
func TestJudgeAtRandom(t *testing.T) {
	r := rand.New(rand.NewSource(37))
	met := map[int]int{}
	for range 60 {
		p := randomProgram(t, r)
		for range 10 {
			q := randomRequest(r)
			policy := r.Intn(2)
			want := wordsJudge(t, p, policy, q)
			wantJudge(t, p, policy, q, want)
			met[want]++
		}
	}
	if met[api.Allow] < 60 || met[api.Deny] < 200 {
		t.Errorf("%v", met)
	}
}

// wordsJudge is L6 by its words.
func wordsJudge(t *testing.T, p api.Program, policy int, r api.Request) int {
	t.Helper()
	classes, e := space.Classes(p.Space, r)
	if e != api.OK {
		t.Fatalf("%+v: error %d", r, e)
	}
	holds := func(x api.Ruled) bool {
		f := x.Root
		for f > 1 {
			n := p.Nodes[f-2]
			f = n.Kids[classes[p.Order[n.Level]]]
		}
		return f == 1
	}
	said := ""
	for _, x := range p.Rules {
		if x.Policy == policy && holds(x) {
			said += fmt.Sprint(x.Effect)
		}
	}
	if said == "" || strings.Contains(said, fmt.Sprint(api.ItemDeny)) {
		return api.Deny
	}
	return api.Allow
}

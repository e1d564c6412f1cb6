package bundle_test

import (
	"fmt"
	"math/rand"
	"strings"
	"sync"
	"testing"

	"lychgate/api"
	"lychgate/bundle"
	"lychgate/lower"
	"lychgate/pass"
	"lychgate/request"
	"lychgate/verdict"
)

// bundled is the image that the bytes of a policy's bundle are read as: compiled, behind some passes; false, if there is no room for it.
func bundled(t *testing.T, l api.Policy, passes []int) (api.Image, bool) {
	t.Helper()
	noRoom := func(what string, e api.Errno) bool {
		if e != api.OK && e != api.ErrNodeLimit {
			t.Fatalf("%s: error %d", what, e)
		}
		return e != api.OK
	}
	p, e := lower.Compile([]api.Policy{l}, api.MaxNodes)
	if noRoom("Compile", e) {
		return api.Image{}, false
	}
	if p, e = pass.Run(p, passes, api.MaxNodes); noRoom("Run", e) {
		return api.Image{}, false
	}
	i, e := bundle.Seal(p, api.MaxNodes)
	if noRoom("Seal", e) {
		return api.Image{}, false
	}
	j, e := bundle.Decode(encoded(t, i))
	if e != api.OK {
		t.Fatalf("Decode: error %d", e)
	}
	return j, true
}

// wantSays: an image says of a request's text what the policy does.
func wantSays(t *testing.T, i api.Image, l api.Policy, s string) int {
	t.Helper()
	r, e := request.Decode(s)
	if e != api.OK {
		t.Fatalf("%q: error %d", s, e)
	}
	want, _, e := verdict.Judge(l, r)
	if e != api.OK {
		t.Fatalf("%q: error %d", s, e)
	}
	wantJudge(t, i, r, want)
	return want
}

// The examples of the whole: a policy, and what its bundle says of some requests.
func TestBundlesOfAPolicy(t *testing.T) {
	l := accepted(t, `allow a when method in {GET} and path ~ "/pub/**"; deny b when addr in {10.0.0.0/8};`)
	for _, passes := range [][]int{nil, {1}, {2}, {3}, {4}, {1, 2, 3, 4}, {4, 3, 2, 1, 4}} {
		i, is := bundled(t, l, passes)
		if !is {
			t.Fatalf("by %v no room", passes)
		}
		for s, want := range map[string]int{
			"GET /pub/x 1.2.3.4:80\n\n":                                api.Allow,
			"GET /pub/x 10.1.2.3:80\n\n":                               api.Deny,
			"PUT /pub/x 1.2.3.4:80\n\n":                                api.Deny,
			"GET /pub/x/y/z 1.2.3.4:80\n\n":                            api.Allow,
			"GET /%70ub/./x/y/../z 1.2.3.4:80\nk:v\n\n":                api.Allow,
			"GET /pub/../x 1.2.3.4:80\nk:v\n\n":                        api.Deny,
			"GET /pub/" + strings.Repeat("a", 5000) + " 9.2.3.4:0\n\n": api.Allow,
		} {
			if got := wantSays(t, i, l, s); got != want {
				t.Errorf("%q: %d", s, got)
			}
		}
	}
}

// randomCond is a condition of tests that randomRequest tells from one another.
func randomCond(r *rand.Rand, deep int) string {
	if deep == 0 || r.Intn(3) == 0 {
		return pick(r,
			"addr in {10.0.0.0/8}", "addr in {10.1.0.0/16, 11.0.0.0/8}", "addr in {0.0.0.0}", "port in {80}", "port in {80-90, 0}", "port in {2-65535}", "method in {GET}", "method in {A, PUT}", "method in {POST}",
			`path ~ "/a/*"`, `path ~ "/b*"`, `path ~ "/a/**"`, `path ~ "**b"`, `path ~ "/?"`, `has "k"`, `has "b"`, `header "k" ~ "a*"`, `header "k" ~ "*y"`, `header "l" ~ "x?"`, `header "l" ~ ""`, "true", "false")
	}
	if r.Intn(4) == 0 {
		return "not (" + randomCond(r, deep-1) + ")"
	}
	var l []string
	for range 2 + r.Intn(2) {
		l = append(l, "("+randomCond(r, deep-1)+")")
	}
	return strings.Join(l, pick(r, " and ", " or "))
}

func randomSource(r *rand.Rand) string {
	out := "let same = " + randomCond(r, 2) + ";"
	for n := range 1 + r.Intn(4) {
		out += fmt.Sprintf("%s r%d when %s%s;", pick(r, "allow", "allow", "deny"), n, randomCond(r, 3), pick(r, "", " and not same", " or same"))
	}
	return out
}

// DOC.md's P1: whatever the source and the passes are, what the bundle says is what the policy says.
func TestEachBundleSaysWhatItsPolicyDoes(t *testing.T) {
	var lock sync.Mutex
	met := map[int]int{}
	none := 0
	inParallel(t, func(t *testing.T, r *rand.Rand) {
		for range 8 {
			l := accepted(t, randomSource(r))
			for range 2 {
				var passes []int
				for range r.Intn(4) {
					passes = append(passes, 1+r.Intn(4))
				}
				i, is := bundled(t, l, passes)
				lock.Lock()
				if !is {
					none++
				}
				lock.Unlock()
				for range 8 {
					if !is {
						break
					}
					s, e := request.Encode(pick(r, randomRequest(r), leastOf(t, r, i.Space)))
					if e != api.OK {
						t.Fatalf("Encode: error %d", e)
					}
					said := wantSays(t, i, l, s)
					lock.Lock()
					met[said]++
					lock.Unlock()
				}
			}
		}
	})
	if met[api.Allow] < 150 || met[api.Deny] < 150 || none > 20 {
		t.Errorf("%v; of %d no room", met, none)
	}
}

package sidecar_test

import (
	"math/rand"
	"sync"
	"testing"

	"lychgate/api"
	"lychgate/sidecar"
)

// source is one with its bundle.
type source struct {
	policy *api.Policy
	bytes  string
}

// randomSources are some that there is room for.
func randomSources(t *testing.T, r *rand.Rand, many int) []source {
	t.Helper()
	var out []source
	for len(out) < many {
		l := accepted(t, randomSource(r))
		if b, is := roomFor(t, l, randomPasses(r)); is {
			out = append(out, source{&l, b})
		}
	}
	return out
}

// Whatever is loaded and asked, in whatever order: the answers are those of the policy taken last, and of a count.
func TestWhateverIsDone(t *testing.T) {
	var lock sync.Mutex
	met := map[int]int{}
	inParallel(t, func(t *testing.T, r *rand.Rand) {
		l := randomSources(t, r, 8)
		for range 4 {
			s, taken := sidecar.New(), 0
			var last *api.Policy
			for range 60 {
				switch x := pick(r, l...); r.Intn(6) {
				case 0:
					taken++
					wantLoad(t, s, x.bytes, taken)
					last = x.policy
				case 1:
					cut := r.Intn(len(x.bytes))
					wantNoBundle(t, s, "cut", x.bytes[:cut])
				case 2:
					wantSays(t, s, last, randomWrong(r))
				default:
					v, _ := wantSays(t, s, last, randomText(r))
					lock.Lock()
					met[v]++
					lock.Unlock()
				}
				wantVersion(t, s, taken)
			}
		}
	})
	if met[api.Allow] < 150 || met[api.Deny] < 150 {
		t.Errorf("%v", met)
	}
}

// Two that took the same bundle last say the same, whatever was ahead of it.
func TestWhatWasAheadIsForgotten(t *testing.T) {
	inParallel(t, func(t *testing.T, r *rand.Rand) {
		l := randomSources(t, r, 6)
		for range 12 {
			x := pick(r, l...)
			one, two := loaded(t, x.bytes), sidecar.New()
			for range r.Intn(4) {
				two.Load(pick(r, l...).bytes)
				two.Load(pick(r, wrongRequests()...))
				two.Eval(randomText(r))
				two.Eval(randomWrong(r))
			}
			if e := two.Load(x.bytes); e != api.OK {
				t.Fatalf("Load: error %d", e)
			}
			for range 10 {
				raw := pick(r, randomText(r), randomText(r), randomWrong(r))
				v, e := one.Eval(raw)
				u, f := two.Eval(raw)
				if v != u || e != f {
					t.Fatalf("%q: %d, error %d; the other one %d, error %d", raw, v, e, u, f)
				}
				two.Load("x" + x.bytes)
				if u, f = two.Eval(raw); v != u || e != f {
					t.Fatalf("%q, again: %d, error %d; ahead of it %d, error %d", raw, u, f, v, e)
				}
			}
		}
	})
}

// Whatever passes a policy went through, a sidecar with the bundle says of each request what the policy does.
func TestBundlesOfOnePolicyAgree(t *testing.T) {
	inParallel(t, func(t *testing.T, r *rand.Rand) {
		for range 3 {
			l := accepted(t, randomSource(r))
			var all []*sidecar.Sidecar
			for _, passes := range [][]int{nil, {1}, {2}, {3}, {4}, randomPasses(r)} {
				if b, is := roomFor(t, l, passes); is {
					all = append(all, loaded(t, b))
				}
			}
			for range 8 {
				raw := randomText(r)
				for _, s := range all {
					wantSays(t, s, &l, raw)
				}
			}
		}
	})
}

package sidecar_test

import (
	"fmt"
	"math/rand"
	"strings"
	"sync"
	"testing"

	"lychgate/api"
	"lychgate/bundle"
	"lychgate/request"
	"lychgate/sidecar"
)

// The examples of the whole.
func TestEvalOfAPolicy(t *testing.T) {
	l := `allow a when method in {GET} and path ~ "/pub/**"; deny b when addr in {10.0.0.0/8};`
	for _, passes := range [][]int{nil, {1}, {2}, {3}, {4}, {1, 2, 3, 4}} {
		s := loaded(t, bundleOf(t, l, passes...))
		for raw, want := range map[string]int{
			"GET /pub/x 1.2.3.4:80\n\n":                                api.Allow,
			"GET /pub/x 10.1.2.3:80\n\n":                               api.Deny,
			"PUT /pub/x 1.2.3.4:80\n\n":                                api.Deny,
			"GET /pub 1.2.3.4:80\n\n":                                  api.Deny,
			"GET /pub/x/y/z 1.2.3.4:80\n\n":                            api.Allow,
			"GET //%70ub/./x/y/../z/ 1.2.3.4:80\nk:v\nK: w \n\n":       api.Allow,
			"GET /pub/../x 1.2.3.4:80\nk:v\n\n":                        api.Deny,
			"GET /pub/" + strings.Repeat("a", 5000) + " 9.2.3.4:0\n\n": api.Allow,
		} {
			wantEval(t, s, raw, want)
		}
	}
}

// Bytes that are no request are told so, whatever there is.
func TestEvalOfNoRequest(t *testing.T) {
	sidecars := []*sidecar.Sidecar{sidecar.New(), loaded(t, bundleOf(t, "")), loaded(t, bundleOf(t, "allow a when true;")), loaded(t, bundleOf(t, several), bundleOf(t, "deny a when true;"))}
	for _, raw := range wrongRequests() {
		for _, s := range sidecars {
			was := s.Version()
			wantNoRequest(t, s, raw)
			wantVersion(t, s, was)
		}
	}
	for k, s := range sidecars {
		wantEval(t, s, asked, []int{api.Deny, api.Deny, api.Allow, api.Deny}[k])
	}
}

// Ahead of the first bundle all that is a request is denied.
func TestEvalWithoutABundle(t *testing.T) {
	s := sidecar.New()
	inParallel(t, func(t *testing.T, r *rand.Rand) {
		for range 200 {
			wantEval(t, s, randomText(r), api.Deny)
			wantSays(t, s, nil, randomWrong(r))
			if r.Intn(10) == 0 {
				wantNoBundle(t, s, "bytes", randomText(r))
			}
		}
	})
	wantVersion(t, s, 0)
}

// However a request is written, it is judged by its one form.
func TestEvalHangsOnTheOneForm(t *testing.T) {
	inParallel(t, func(t *testing.T, r *rand.Rand) {
		s := loaded(t, bundleOf(t, randomSource(r)))
		for range 60 {
			raw := randomText(r)
			q, e := request.Decode(raw)
			if e != api.OK {
				t.Fatalf("%q: error %d", raw, e)
			}
			one, e := request.Encode(q)
			if e != api.OK {
				t.Fatalf("%q: error %d", raw, e)
			}
			v, _ := s.Eval(raw)
			wantEval(t, s, one, v)
		}
	})
}

// The judge is layer 21's, by the image that the bytes say.
func TestEvalIsTheJudgeOfTheImage(t *testing.T) {
	var lock sync.Mutex
	met := map[string]int{}
	inParallel(t, func(t *testing.T, r *rand.Rand) {
		for range 8 {
			l := accepted(t, randomSource(r))
			b, is := roomFor(t, l, randomPasses(r))
			if !is {
				continue
			}
			i, e := bundle.Decode(b)
			if e != api.OK {
				t.Fatalf("Decode: error %d", e)
			}
			s := loaded(t, b)
			for range 15 {
				raw := pick(r, randomText(r), randomText(r), randomWrong(r))
				v, e := wantSays(t, s, &l, raw)
				if q, f := request.Decode(raw); f == api.OK {
					if want, g := bundle.Judge(i, q); v != want || g != api.OK {
						t.Fatalf("%q: %d; the image says %d, error %d", raw, v, want, g)
					}
				}
				lock.Lock()
				met[fmt.Sprint(v, e)]++
				lock.Unlock()
			}
		}
	})
	if met["1 0"] < 100 || met["2 0"] < 100 || met["0 70"] < 50 || len(met) != 3 {
		t.Errorf("%v", met)
	}
}

package lower_test

import (
	"fmt"
	"math/rand"
	"testing"

	"lychgate/api"
	"lychgate/dd"
	"lychgate/lower"
	"lychgate/space"
	"lychgate/verdict"
)

// inParallel runs a test with several seeds.
func inParallel(t *testing.T, run func(t *testing.T, r *rand.Rand)) {
	for seed := range 6 {
		t.Run(fmt.Sprint(seed), func(t *testing.T) {
			t.Parallel()
			run(t, rand.New(rand.NewSource(int64(seed)+100)))
		})
	}
}

// A program says of each request what chapter 12 says of the policy.
func TestProgramSaysWhatThePolicySays(t *testing.T) {
	inParallel(t, func(t *testing.T, r *rand.Rand) {
		met := map[int]int{}
		for range 15 {
			l := randomPolicies(t, r, 5)
			p, e := lower.Compile(l, api.MaxNodes)
			if e != api.OK {
				t.Fatalf("error %d", e)
			}
			for range 8 {
				q := randomRequest(r)
				for i := range l {
					want, _, e := verdict.Judge(l[i], q)
					if e != api.OK {
						t.Fatalf("%+v: error %d", q, e)
					}
					wantJudge(t, p, i, q, want)
					met[want]++
				}
			}
		}
		if met[api.Allow] < 10 || met[api.Deny] < 40 {
			t.Errorf("%v", met)
		}
	})
}

// Each point of a program's space is some requests: what Total says there is what the policy says of the least of them.
func TestTotalSaysWhatThePolicySays(t *testing.T) {
	inParallel(t, func(t *testing.T, r *rand.Rand) {
		met := map[bool]int{}
		for range 12 {
			l := randomPolicies(t, r, 5)
			p, e := lower.Compile(l, api.MaxNodes)
			if e != api.OK {
				t.Fatalf("error %d", e)
			}
			a, _, e := lower.Open(p, api.MaxNodes)
			if e != api.OK {
				t.Fatalf("error %d", e)
			}
			w := newWords(a.Sizes())
			for i := range l {
				f, e := lower.Total(a, p.Rules, i)
				if e != api.OK {
					t.Fatalf("error %d", e)
				}
				for range 10 {
					at := w.point(r.Intn(w.points()))
					q, _ := space.Request(p.Space, at)
					want, _, e := verdict.Judge(l[i], q)
					if is, d := dd.Eval(a, f, at); is != (want == api.Allow) || d != api.OK || e != api.OK {
						t.Fatalf("%+v, policy %d: %v, errors %d, %d; want %d", q, i, is, d, e, want)
					}
					met[want == api.Allow]++
				}
			}
		}
		if met[true] < 10 || met[false] < 40 {
			t.Errorf("%v", met)
		}
	})
}

// A policy has room in as many nodes as its bound is.
func TestBoundIsEnough(t *testing.T) {
	inParallel(t, func(t *testing.T, r *rand.Rand) {
		met, near := 0, 0
		for range 80 {
			p := policy(t, lowSource(r))
			n, e := lower.Bound(p)
			if e != api.OK {
				t.Fatalf("error %d", e)
			}
			if n > api.MaxNodes {
				continue
			}
			met++
			x, e := lower.Compile([]api.Policy{p}, n)
			if e != api.OK {
				t.Errorf("of %d nodes: error %d: %+v", n, e, p)
			}
			if len(x.Nodes) > 1 {
				near++
			}
		}
		if met < 20 || near < 5 {
			t.Errorf("%d with a bound, %d of them with several nodes", met, near)
		}
	})
}

// lowSource is that of a policy with a low bound: what is asked stands there once, in lets.
func lowSource(r *rand.Rand) string {
	lets := []string{"let p = port in {80};", "let g = method in {GET};", `let a = has "a";`, `let b = has "b";`}
	names := []string{"p", "g", "a", "b"}
	if r.Intn(3) == 0 {
		i := r.Intn(4)
		lets[i] = pick(r, `let `+names[i]+` = path ~ "a*";`, `let `+names[i]+` = header "c" ~ "";`, `let `+names[i]+` = addr in {0.0.0.0/1};`, randomSource(r, 1)+`let `+names[i]+` = true;`)
	}
	out := ""
	for _, s := range lets {
		out += s
	}
	var tree func(deep int) string
	tree = func(deep int) string {
		if deep == 0 || r.Intn(5) == 0 {
			return pick(r, names...)
		}
		if r.Intn(3) == 0 {
			return "not (" + tree(deep-1) + ")"
		}
		return "(" + tree(deep-1) + pick(r, " and ", " or ") + tree(deep-1) + ")"
	}
	return out + "allow r when " + tree(4) + ";"
}

// Close of what Open laid is the program, whatever is made beside it.
func TestCloseOfOpen(t *testing.T) {
	r := rand.New(rand.NewSource(43))
	for range 150 {
		p := randomProgram(t, r)
		a, roots, e := lower.Open(p, len(p.Nodes)+r.Intn(20))
		if e != api.OK {
			t.Fatalf("error %d", e)
		}
		lower.Total(a, p.Rules, r.Intn(2))
		l := make([]api.Ruled, len(roots))
		for i, f := range roots {
			l[i] = p.Rules[i]
			l[i].Root = f
		}
		q, e := lower.Close(p.Space, p.Order, a, l)
		if e != api.OK {
			t.Fatalf("error %d", e)
		}
		wantProgram(t, q, p)
	}
	for _, s := range []string{"", chapter, "allow a when true;", `deny a when path ~ "/a/**" or has "k"; allow b when not header "x" ~ "*";`} {
		p := program(t, s, chapter)
		q, e := lower.Close(p.Space, p.Order, wantOpen(t, p, len(p.Nodes)), p.Rules)
		if e != api.OK {
			t.Fatalf("error %d", e)
		}
		wantProgram(t, q, p)
	}
}

// Where things stand in a source does not matter.
func TestPlacesDoNotMatter(t *testing.T) {
	p := policy(t, chapter)
	want := program(t, chapter)
	for i := range p.Items {
		p.Items[i].At, p.Items[i].Cond.At = -i, 1<<40
	}
	got, e := lower.Compile([]api.Policy{p}, 3)
	if e != api.OK {
		t.Fatalf("error %d", e)
	}
	wantProgram(t, got, want)
	if n, e := lower.Bound(p); n != 2560 || e != api.OK {
		t.Errorf("%d, error %d", n, e)
	}
}

// DOC.md's examples of the whole.
func TestExamplesOfTheWhole(t *testing.T) {
	p := program(t, `allow a when method in {GET} and path ~ "/pub/**"; deny b when addr in {10.0.0.0/8};`)
	wantJudge(t, p, 0, asked(t, "GET /pub/x 1.2.3.4:80\n\n"), api.Allow)
	wantJudge(t, p, 0, asked(t, "GET /pub/x 10.1.2.3:80\n\n"), api.Deny)
	wantJudge(t, p, 0, asked(t, "PUT /pub/x 1.2.3.4:80\n\n"), api.Deny)
	// Both say the same, so in one space they are the same number.
	q := program(t, `allow a when path ~ "/a/**" or not path ~ "/a/**";`, "allow a when true;")
	if q.Rules[0].Root != q.Rules[1].Root || len(q.Nodes) != 0 {
		t.Errorf("%+v", q.Rules)
	}
}

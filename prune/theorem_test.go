package prune_test

import (
	"fmt"
	"math/rand"
	"slices"
	"strings"
	"testing"

	"lychgate/api"
	"lychgate/check"
	"lychgate/lower"
	"lychgate/prune"
	"lychgate/space"
	"lychgate/verdict"
)

func answer(t *testing.T, do call, p api.Program) api.Program {
	t.Helper()
	q, e := do(p, api.MaxNodes)
	if e != api.OK {
		t.Fatalf("error %d, of %s", e, tell(p))
	}
	if !lower.Right(q) {
		t.Fatalf("not right: %s", tell(q))
	}
	return q
}

// allowed is where a program's policy says Allow.
func allowed(p api.Program, policy int) table {
	w := wordsOf(p)
	denies, allows := w.none(), w.none()
	for _, x := range p.Rules {
		switch {
		case x.Policy != policy:
		case x.Effect == api.ItemDeny:
			denies = either(denies, w.says(x.Root))
		default:
			allows = either(allows, w.says(x.Root))
		}
	}
	return both(allows, not(denies))
}

// wantSays: two programs of one space say the same at each point, so of all requests; layer 17 is asked of some of these.
func wantSays(t *testing.T, what string, r *rand.Rand, q, p api.Program) {
	t.Helper()
	if tell(q.Space) != tell(p.Space) || !slices.Equal(q.Order, p.Order) {
		t.Fatalf("%s: another space or order", what)
	}
	for policy := range 2 {
		if !slices.Equal(allowed(q, policy), allowed(p, policy)) {
			t.Fatalf("%s: the policy %d of %s says something else than that of %s", what, policy, tell(q), tell(p))
		}
	}
	w := newWords(sizesOf(p.Space, upTo(len(p.Space))))
	for range 2 {
		asked, e := space.Request(p.Space, w.point(r.Intn(w.points())))
		if e != api.OK {
			t.Fatalf("Request: error %d", e)
		}
		for policy := range 3 {
			want, _ := lower.Judge(p, policy, asked)
			if got, e := lower.Judge(q, policy, asked); got != want || e != api.OK || want == 0 {
				t.Fatalf("%s: policy %d, %+v: %d, error %d; want %d", what, policy, asked, got, e, want)
			}
		}
	}
}

func upTo(n int) []int {
	out := make([]int, n)
	for i := range out {
		out[i] = i
	}
	return out
}

func TestAnswersSayTheSame(t *testing.T) {
	inParallel(t, func(t *testing.T, r *rand.Rand) {
		for range 12 {
			p := randomProgram(t, r)
			dead, merged := answer(t, prune.Dead, p), answer(t, prune.Merge, p)
			wantSays(t, "Dead", r, dead, p)
			wantSays(t, "Merge", r, merged, p)
			wantSays(t, "Merge of Dead", r, answer(t, prune.Merge, dead), p)
			wantSays(t, "Dead of Merge", r, answer(t, prune.Dead, merged), p)
		}
	})
}

func TestAgainIsTheSame(t *testing.T) {
	inParallel(t, func(t *testing.T, r *rand.Rand) {
		for range 30 {
			p := randomProgram(t, r)
			for what, do := range calls() {
				once := answer(t, do, p)
				wantProgram(t, what, answer(t, do, once), once)
			}
		}
	})
}

// Behind Dead each rule changes something at its place.
func TestDeadLeavesNoneThatChangesNothing(t *testing.T) {
	inParallel(t, func(t *testing.T, r *rand.Rand) {
		met := 0
		for range 30 {
			p := answer(t, prune.Dead, randomProgram(t, r))
			w := wordsOf(p)
			for i, x := range p.Rules {
				left := w.says(x.Root)
				for k, y := range p.Rules {
					if y.Policy != x.Policy || k == i {
						continue
					}
					if y.Effect == x.Effect && k < i || y.Effect == api.ItemDeny && x.Effect == api.ItemAllow {
						left = both(left, not(w.says(y.Root)))
						met++
					}
				}
				if isNone(left) {
					t.Fatalf("the rule %d of %s", i, tell(p))
				}
			}
		}
		if met < 25 {
			t.Errorf("%d rules that outdo others", met)
		}
	})
}

// The rules behind Dead are some of those ahead of it, in their order, and say the same; so are its nodes.
func TestDeadGivesSomeOfWhatWasThere(t *testing.T) {
	inParallel(t, func(t *testing.T, r *rand.Rand) {
		for range 30 {
			p := randomProgram(t, r)
			q := answer(t, prune.Dead, p)
			was, now := wordsOf(p), wordsOf(q)
			at := 0
			for _, x := range q.Rules {
				same := func(y api.Ruled) bool {
					return x.Policy == y.Policy && x.Effect == y.Effect && x.Name == y.Name && slices.Equal(now.says(x.Root), was.says(y.Root))
				}
				next := slices.IndexFunc(p.Rules[at:], same)
				if next < 0 {
					t.Fatalf("%+v is none of %+v", x, p.Rules[at:])
				}
				at += next + 1
			}
			for f := range q.Nodes {
				was.put(now.says(f + 2))
			}
			if len(was.nodes) != len(p.Nodes) || len(q.Nodes) > len(p.Nodes) {
				t.Fatalf("nodes %v; ahead of it %v", q.Nodes, p.Nodes)
			}
		}
	})
}

func TestMergeLeavesNoTwoAlike(t *testing.T) {
	inParallel(t, func(t *testing.T, r *rand.Rand) {
		for range 30 {
			p := randomProgram(t, r)
			q := answer(t, prune.Merge, p)
			for i := 1; i < len(q.Rules); i++ {
				if q.Rules[i-1].Policy == q.Rules[i].Policy && q.Rules[i-1].Effect == q.Rules[i].Effect {
					t.Fatalf("%+v", q.Rules)
				}
			}
			if len(q.Rules) > len(p.Rules) {
				t.Fatalf("%d rules; ahead of it %d", len(q.Rules), len(p.Rules))
			}
		}
	})
}

// randomSource has a low bound: what is asked stands there once, in lets.
func randomSource(r *rand.Rand) string {
	names := []string{"p", "g", "a"}
	out := `let p = port in {80}; let g = method in {GET}; let a = has "a";`
	for i := range 1 + r.Intn(4) {
		var l []string
		for range 1 + r.Intn(3) {
			l = append(l, pick(r, "", "not ")+pick(r, names...))
		}
		out += fmt.Sprintf("%s r%d when %s;", pick(r, "allow", "deny"), i, strings.Join(l, pick(r, " and ", " or ")))
	}
	return out
}

// DOC.md's P1 and P5: a policy whose bound is low enough has room, and what it says stays.
func TestPoliciesKeepWhatTheySay(t *testing.T) {
	inParallel(t, func(t *testing.T, r *rand.Rand) {
		met := map[int]int{}
		for range 6 {
			l, e, _ := check.Accept(randomSource(r))
			most, f := lower.Bound(l)
			if e != api.OK || f != api.OK || most > api.MaxNodes {
				t.Fatalf("errors %d, %d, bound %d", e, f, most)
			}
			p, e := lower.Compile([]api.Policy{l}, most)
			if e != api.OK {
				t.Fatalf("Compile: error %d", e)
			}
			for what, do := range calls() {
				q, e := do(p, most)
				if e != api.OK {
					t.Fatalf("%s of at most %d nodes: error %d", what, most, e)
				}
				w := newWords(sizesOf(p.Space, p.Order))
				for n := range w.points() {
					asked, _ := space.Request(p.Space, w.point(n))
					want, _, _ := verdict.Judge(l, asked)
					if got, e := lower.Judge(q, 0, asked); got != want || e != api.OK {
						t.Fatalf("%s: %+v: %d, error %d; want %d", what, asked, got, e, want)
					}
					met[want]++
				}
			}
		}
		if met[api.Allow] < 5 || met[api.Deny] < 25 {
			t.Errorf("%v", met)
		}
	})
}

// A program of two policies, from sources.
func TestCompiled(t *testing.T) {
	p := program(t,
		`allow a when method in {GET} and path ~ "/pub/**"; deny b when addr in {10.0.0.0/8}; allow c when path ~ "/pub/*" and method in {GET}; deny d when addr in {10.1.0.0/16} and has "k";`,
		`allow a when path ~ "/pub/*"; allow b when path ~ "/pub/**"; deny c when has "k" and not has "k";`)
	r := rand.New(rand.NewSource(7))
	dead := answer(t, prune.Dead, p)
	var names string
	for _, x := range dead.Rules {
		names += fmt.Sprint(x.Policy, x.Name, " ")
	}
	if names != "0a 0b 1a 1b " {
		t.Errorf("%s", names)
	}
	wantSays(t, "Dead", r, dead, p)
	merged := answer(t, prune.Merge, dead)
	names = ""
	for _, x := range merged.Rules {
		names += fmt.Sprint(x.Policy, x.Name, " ")
	}
	if names != "0a 0b 1a " {
		t.Errorf("%s", names)
	}
	wantSays(t, "Merge", r, merged, p)
}

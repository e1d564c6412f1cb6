package pass_test

import (
	"fmt"
	"math/rand"
	"slices"
	"strings"
	"testing"

	"lychgate/api"
	"lychgate/lower"
	"lychgate/pass"
	"lychgate/space"
	"lychgate/verdict"
)

// wantSays: both say the same of a request, policy by policy.
func wantSays(t *testing.T, what string, p, q api.Program, r api.Request) {
	t.Helper()
	for policy := range 3 {
		want, e := lower.Judge(p, policy, r)
		if got, f := lower.Judge(q, policy, r); got != want || e != api.OK || f != api.OK {
			t.Fatalf("%s: the policy %d of %+v: %d, errors %d, %d; want %d", what, policy, r, got, e, f, want)
		}
	}
}

// leastOf is the least request of classes at random.
func leastOf(t *testing.T, r *rand.Rand, x []api.Attr) api.Request {
	t.Helper()
	var classes []int
	for _, y := range x {
		classes = append(classes, r.Intn(y.Size))
	}
	out, e := space.Request(x, classes)
	if e != api.OK {
		t.Fatalf("Request: error %d", e)
	}
	return out
}

// randomRequest is one with members of many classes of all spaces here.
func randomRequest(r *rand.Rand) api.Request {
	out := api.Request{
		Method: pick(r, "A", "GET", "PUT", "POST"),
		Path:   pick(r, "/", "/a", "/b", "/a/b", "/a/b/c", "/bbbb", "/%2F"),
		Addr:   pick(r, 0, 10<<24, 10<<24+5, 10<<24+1<<16, 11<<24-1, 11<<24, 12<<24, api.MaxWord),
		Port:   pick(r, 0, 1, 2, 3, 79, 80, 81, 85, 90, 91, api.MaxPort),
	}
	for _, name := range []string{"a", "b", "k", "l"} {
		if r.Intn(2) == 0 {
			out.Headers = append(out.Headers, api.Field{Name: name, Value: pick(r, "", "a", "ab", "x", "xy", "y")})
		}
	}
	return out
}

// wantBetter: DOC.md's P6 of a pass.
func wantBetter(t *testing.T, n int, p, q api.Program) {
	t.Helper()
	if !lower.Right(q) {
		t.Fatalf("by %d: not right: %s", n, tellRules(q))
	}
	if len(q.Rules) > len(p.Rules) || n != api.PassMerge && len(q.Nodes) > len(p.Nodes) || len(q.Space) != len(p.Space) {
		t.Fatalf("by %d: %s; ahead of it %s", n, tellRules(q), tellRules(p))
	}
	for attr, x := range p.Space {
		if y := q.Space[attr]; y.Kind != x.Kind || y.Name != x.Name || y.Size > x.Size {
			t.Fatalf("by %d: the attribute %d has %d classes; ahead of it %d", n, attr, y.Size, x.Size)
		}
	}
}

// Whatever passes are run: what is said stays, and each pass makes nothing worse.
func TestTheoremAtRandom(t *testing.T) {
	inParallel(t, func(t *testing.T, r *rand.Rand) {
		for range 8 {
			p := randomProgram(t, r)
			passes := append(randomPasses(r, 5), 1+r.Intn(4))
			q := p
			for _, n := range passes {
				u := mustRun(t, q, n)
				wantBetter(t, n, q, u)
				q = u
			}
			wantRun(t, p, passes, api.MaxNodes, q)
			for range 4 {
				wantSays(t, fmt.Sprint("by ", passes), p, q, leastOf(t, r, p.Space))
				wantSays(t, fmt.Sprint("by ", passes), p, q, randomRequest(r))
			}
		}
	})
}

// At each point of the classes both policies say the same behind passes, by tables.
func TestEachPoint(t *testing.T) {
	inParallel(t, func(t *testing.T, r *rand.Rand) {
		for range 8 {
			p := randomProgram(t, r)
			passes := append(randomPasses(r, 4), 1+r.Intn(4))
			q := mustRun(t, p, passes...)
			plain := newWords(counts(p))
			for n := range plain.points() {
				if n%(1+plain.points()/24) > 0 {
					continue
				}
				asked, e := space.Request(p.Space, plain.point(n))
				classes, f := space.Classes(q.Space, asked)
				if e != api.OK || f != api.OK {
					t.Fatalf("errors %d, %d", e, f)
				}
				for policy := range 2 {
					if got, want := allows(q, policy, classes), allows(p, policy, plain.point(n)); got != want {
						t.Fatalf("by %v, the policy %d at %v: %v; of %s", passes, policy, plain.point(n), got, tellRules(p))
					}
				}
			}
		}
	})
}

// allows: does a policy allow what has these classes, attribute by attribute?
func allows(p api.Program, policy int, classes []int) bool {
	allowed, denied := false, false
	for _, x := range p.Rules {
		if x.Policy == policy && says(p.Nodes, x.Root, picked(classes, p.Order)) {
			allowed = allowed || x.Effect == api.ItemAllow
			denied = denied || x.Effect == api.ItemDeny
		}
	}
	return allowed && !denied
}

// But for PassOrder a pass right behind itself changes nothing, and has room where it had.
func TestTwiceIsOnce(t *testing.T) {
	inParallel(t, func(t *testing.T, r *rand.Rand) {
		for range 12 {
			p := randomProgram(t, r)
			ahead := randomPasses(r, 2)
			for _, n := range []int{api.PassDead, api.PassMerge, api.PassFuse} {
				once := append(slices.Clone(ahead), n)
				twice := append(slices.Clone(once), n)
				for _, most := range []int{len(p.Nodes), len(p.Nodes) + 1 + r.Intn(6), api.MaxNodes} {
					if q, e := pass.Run(p, once, most); e == api.OK {
						wantRun(t, p, twice, most, q)
					} else {
						wantNotRun(t, p, twice, most, api.ErrNodeLimit)
					}
				}
			}
			// Of PassOrder's second time there are no more nodes.
			q := mustRun(t, p, api.PassOrder)
			wantBetter(t, api.PassOrder, q, mustRun(t, p, api.PassOrder, api.PassOrder))
		}
	})
}

// randomSource has a low bound: what is asked stands there once, in lets.
func randomSource(r *rand.Rand) string {
	names := []string{"p", "g", "a"}
	out := pick(r, `let p = port in {80}; let g = method in {GET}; let a = has "a";`, `let p = port in {80}; let g = addr in {10.0.0.0/8}; let a = port in {81-90};`)
	for i := range 1 + r.Intn(4) {
		var l []string
		for range 1 + r.Intn(3) {
			l = append(l, pick(r, "", "not ")+pick(r, names...))
		}
		out += fmt.Sprintf("%s r%d when %s;", pick(r, "allow", "deny"), i, strings.Join(l, pick(r, " and ", " or ")))
	}
	return out
}

// DOC.md's P1 and P5: a policy whose bound is low enough has room, without passes and with each one alone; and what it says stays.
func TestPoliciesKeepWhatTheySay(t *testing.T) {
	inParallel(t, func(t *testing.T, r *rand.Rand) {
		met := map[int]int{}
		for range 8 {
			l := accepted(t, randomSource(r))
			most, e := lower.Bound(l)
			if e != api.OK || most > api.MaxNodes {
				t.Fatalf("error %d, bound %d", e, most)
			}
			p, e := lower.Compile([]api.Policy{l}, most)
			if e != api.OK {
				t.Fatalf("Compile: error %d", e)
			}
			for _, passes := range [][]int{nil, {1}, {2}, {3}, {4}, {1, 2, 3, 4}} {
				q, e := pass.Run(p, passes, most)
				if e != api.OK {
					t.Fatalf("by %v, of at most %d nodes: error %d", passes, most, e)
				}
				for range 3 {
					asked := pick(r, randomRequest(r), leastOf(t, r, p.Space))
					want, _, _ := verdict.Judge(l, asked)
					if got, e := lower.Judge(q, 0, asked); got != want || e != api.OK {
						t.Fatalf("by %v, %+v: %d, error %d; want %d", passes, asked, got, e, want)
					}
					met[want]++
				}
			}
		}
		if met[api.Allow] < 10 || met[api.Deny] < 40 {
			t.Errorf("%v", met)
		}
	})
}

// A program of two policies, from sources, by all pairs of passes, and by all four in each order.
func TestAllListsAgree(t *testing.T) {
	p := program(t,
		`let own = addr in {10.0.0.0/8}; allow a when own and method in {GET} or port in {80} and path ~ "/a/*"; deny b when has "k" and method in {GET}; deny c when has "k" and method in {GET} and own; allow d when own and method in {GET};`,
		`let x = path ~ "/b/*/c" or method in {PUT}; allow a when path ~ "/a/**" or path ~ "/b" and not x; allow b when port in {80} or port in {81-90}; deny c when header "k" ~ "x*" and has "l";`)
	r := rand.New(rand.NewSource(20))
	var asked []api.Request
	for range 20 {
		asked = append(asked, randomRequest(r), leastOf(t, r, p.Space))
	}
	for _, passes := range allLists() {
		q := mustRun(t, p, passes...)
		for range 3 {
			wantSays(t, fmt.Sprint("by ", passes), p, q, pick(r, asked...))
		}
	}
}

// allLists are all of two passes, and all of four that are unlike.
func allLists() [][]int {
	var out [][]int
	for a := 1; a <= 4; a++ {
		for b := 1; b <= 4; b++ {
			out = append(out, []int{a, b})
			for c := 1; c <= 4; c++ {
				if d := 10 - a - b - c; a != b && b != c && c != a {
					out = append(out, []int{a, b, c, d})
				}
			}
		}
	}
	return out
}

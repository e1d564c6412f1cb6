package fuse_test

import (
	"fmt"
	"math/rand"
	"slices"
	"strings"
	"testing"

	"lychgate/api"
	"lychgate/check"
	"lychgate/dd"
	"lychgate/fuse"
	"lychgate/lower"
	"lychgate/space"
	"lychgate/verdict"
)

// wantTheorem is F3 but for requests: what the answer has of what was handed in.
func wantTheorem(t *testing.T, p, q api.Program) {
	t.Helper()
	if !lower.Right(q) {
		t.Fatalf("not right: %s", tellRules(q))
	}
	if !slices.Equal(q.Order, p.Order) || !slices.Equal(q.Rules, p.Rules) || len(q.Space) != len(p.Space) || len(q.Nodes) != len(p.Nodes) {
		t.Fatalf("%s; want of it what %s has", tellRules(q), tellRules(p))
	}
	stay := make([][]int, len(p.Space))
	for attr, x := range p.Space {
		classes, e := fuse.Alike(p, attr, api.MaxNodes)
		if e != api.OK {
			t.Fatalf("error %d", e)
		}
		stay[attr] = slices.Compact(slices.Sorted(slices.Values(classes)))
		if y := q.Space[attr]; y.Kind != x.Kind || y.Name != x.Name || y.Size != len(stay[attr]) || y.Size > x.Size {
			t.Fatalf("the attribute %d has %d classes, by %v", attr, y.Size, classes)
		}
		// No two are alike behind it.
		if l, e := fuse.Alike(q, attr, api.MaxNodes); !slices.Equal(l, upTo(q.Space[attr].Size)) || e != api.OK {
			t.Fatalf("Alike of %d of what Fuse gave: %v, error %d", attr, l, e)
		}
	}
	for i, n := range q.Nodes {
		was := p.Nodes[i]
		var kids []int
		for _, class := range stay[p.Order[was.Level]] {
			kids = append(kids, was.Kids[class])
		}
		if n.Level != was.Level || !slices.Equal(n.Kids, kids) {
			t.Fatalf("the node %d is %v; it was %v", i+2, n, was)
		}
	}
	wantProgram(t, "Fuse of it", mustFuse(t, q), q)
}

// wantSays: both say the same of a request, policy by policy and rule by rule.
func wantSays(t *testing.T, p, q api.Program, r api.Request) {
	t.Helper()
	for policy := range 3 {
		want, e := lower.Judge(p, policy, r)
		if got, f := lower.Judge(q, policy, r); got != want || e != api.OK || f != api.OK {
			t.Fatalf("the policy %d of %+v: %d, errors %d, %d; want %d", policy, r, got, e, f, want)
		}
	}
	was, now := holds(t, p, r), holds(t, q, r)
	if !slices.Equal(was, now) {
		t.Fatalf("%+v: %v; want %v", r, now, was)
	}
}

// holds: which rules of a program hold of a request?
func holds(t *testing.T, p api.Program, r api.Request) []bool {
	t.Helper()
	a, roots, e := lower.Open(p, api.MaxNodes)
	classes, f := space.Classes(p.Space, r)
	if e != api.OK || f != api.OK {
		t.Fatalf("errors %d, %d", e, f)
	}
	var point []int
	for _, attr := range p.Order {
		point = append(point, classes[attr])
	}
	var out []bool
	for _, root := range roots {
		is, e := dd.Eval(a, root, point)
		if e != api.OK {
			t.Fatalf("Eval: error %d", e)
		}
		out = append(out, is)
	}
	return out
}

// randomRequest is one with members of many classes of all spaces here.
func randomRequest(r *rand.Rand) api.Request {
	out := api.Request{
		Method: pick(r, "A", "B", "C", "GET", "PUT", "POST"),
		Path:   pick(r, "/", "/a", "/b", "/a/b", "/a/b/c", "/bbbb", "/pub/x", "/pub/x/y", "/%2F"),
		Addr:   pick(r, 0, 10<<24, 10<<24+5, 10<<24+1<<16, 11<<24-1, 11<<24, 12<<24, api.MaxWord),
		Port:   pick(r, 0, 1, 2, 3, 79, 80, 81, 85, 90, 91, 443, 444, api.MaxPort),
	}
	for _, name := range []string{"a", "b", "k", "l"} {
		if r.Intn(2) == 0 {
			out.Headers = append(out.Headers, api.Field{Name: name, Value: pick(r, "", "a", "ab", "v", "w", "wy", "x", "xy", "y")})
		}
	}
	return out
}

func TestTheoremAtRandom(t *testing.T) {
	inParallel(t, func(t *testing.T, r *rand.Rand) {
		for range 12 {
			p := randomProgram(t, r)
			q := mustFuse(t, p)
			wantTheorem(t, p, q)
			w := newWords(sizesOf(p))
			for range 4 {
				wantSays(t, p, q, randomRequest(r))
				// The least request of any classes, too.
				classes := make([]int, len(p.Space))
				for level, class := range w.point(r.Intn(w.points())) {
					classes[p.Order[level]] = class
				}
				asked, e := space.Request(p.Space, classes)
				if e != api.OK {
					t.Fatalf("Request: error %d", e)
				}
				wantSays(t, p, q, asked)
			}
		}
	})
}

// At each point of the new classes a rule says what it said at each point of those that these are made of.
func TestEachPoint(t *testing.T) {
	inParallel(t, func(t *testing.T, r *rand.Rand) {
		for range 60 {
			p := randomProgram(t, r)
			q := mustFuse(t, p)
			was, now := wordsOf(p), wordsOf(q)
			to := make([][]int, len(p.Order)) // by levels and classes: the new class
			for level, attr := range p.Order {
				classes, _ := wordsAlike(p, attr)
				own := slices.Compact(slices.Sorted(slices.Values(classes)))
				for _, class := range classes {
					to[level] = append(to[level], slices.Index(own, class))
				}
			}
			for i, x := range p.Rules {
				old, s := was.says(x.Root), now.says(q.Rules[i].Root)
				for n := range old {
					at := was.point(n)
					for level, class := range at {
						at[level] = to[level][class]
					}
					if s[now.number(at)] != old[n] {
						t.Fatalf("the rule %d at %v: %s, of %s", i, was.point(n), tellRules(q), tellRules(p))
					}
				}
			}
		}
	})
}

// What is alike hangs on what the rules say alone: neither on their order, nor on that of the levels, nor on their effects and policies.
func TestAlikeHangsOnWhatIsSaidAlone(t *testing.T) {
	inParallel(t, func(t *testing.T, r *rand.Rand) {
		for range 25 {
			p := randomProgram(t, r)
			q := turned(p, r.Perm(len(p.Space)))
			r.Shuffle(len(q.Rules), func(i, k int) { q.Rules[i], q.Rules[k] = q.Rules[k], q.Rules[i] })
			w, old := newWords(sizesOf(q)), wordsOf(q)
			for i, x := range q.Rules {
				q.Rules[i] = api.Ruled{Policy: 1, Effect: pick(r, api.ItemAllow, api.ItemDeny), Name: "z", Root: w.put(old.says(x.Root))}
			}
			q.Nodes = w.nodes
			for attr := range p.Space {
				want, e := fuse.Alike(p, attr, api.MaxNodes)
				got, f := fuse.Alike(q, attr, api.MaxNodes)
				if !slices.Equal(got, want) || e != api.OK || f != api.OK {
					t.Fatalf("Alike of %d: %v and %v, errors %d, %d", attr, got, want, e, f)
				}
			}
		}
	})
}

// randomSource has a low bound: what is asked stands there once, in lets.
func randomSource(r *rand.Rand) string {
	names := []string{"p", "g", "a"}
	out := pick(r, `let p = port in {80}; let g = method in {GET}; let a = has "a";`, `let p = port in {80}; let g = addr in {10.0.0.0/8}; let a = port in {81-90};`)
	for i := range 1 + r.Intn(3) {
		var l []string
		for range 1 + r.Intn(3) {
			l = append(l, pick(r, "", "not ")+pick(r, names...))
		}
		out += fmt.Sprintf("%s r%d when %s;", pick(r, "allow", "deny"), i, strings.Join(l, pick(r, " and ", " or ")))
	}
	return out
}

// DOC.md's P1 and P5: a policy whose bound is low enough has room, and what it says stays.
func TestPoliciesKeepWhatTheySay(t *testing.T) {
	inParallel(t, func(t *testing.T, r *rand.Rand) {
		met := map[int]int{}
		for range 15 {
			l, e, _ := check.Accept(randomSource(r))
			most, f := lower.Bound(l)
			if e != api.OK || f != api.OK || most > api.MaxNodes {
				t.Fatalf("errors %d, %d, bound %d", e, f, most)
			}
			p, e := lower.Compile([]api.Policy{l}, most)
			if e != api.OK {
				t.Fatalf("Compile: error %d", e)
			}
			q, e := fuse.Fuse(p, most)
			if e != api.OK {
				t.Fatalf("Fuse of at most %d nodes: error %d", most, e)
			}
			for range 8 {
				asked := randomRequest(r)
				want, _, _ := verdict.Judge(l, asked)
				if got, e := lower.Judge(q, 0, asked); got != want || e != api.OK {
					t.Fatalf("%+v: %d, error %d; want %d", asked, got, e, want)
				}
				met[want]++
			}
		}
		if met[api.Allow] < 5 || met[api.Deny] < 25 {
			t.Errorf("%v", met)
		}
	})
}

// A program of two policies, from sources, whose automata become smaller.
func TestCompiled(t *testing.T) {
	p := program(t,
		`let own = addr in {10.0.0.0/8}; let part = addr in {10.1.0.0/16}; allow a when method in {GET} and (path ~ "/a/**" or path ~ "/a/?"); deny b when own or part; allow c when header "k" ~ "a*" and method in {GET}; deny d when header "k" ~ "ab" and has "l";`,
		`let x = path ~ "/b/*/c"; allow a when path ~ "/a/**" or path ~ "/pub/*" and not path ~ "/pub/*"; allow b when port in {80} or port in {81-90}; deny c when header "l" ~ "*y" and not has "l";`)
	q := mustFuse(t, p)
	wantTheorem(t, p, q)
	var was, now []int
	for attr := range p.Space {
		was, now = append(was, p.Space[attr].Size), append(now, q.Space[attr].Size)
	}
	if fmt.Sprint(was, now) != "[3 3 2 5 3 3] [2 2 2 2 3 2]" {
		t.Errorf("%v, behind it %v", was, now)
	}
	if len(q.Space[3].Auto.Out) >= len(p.Space[3].Auto.Out) {
		t.Errorf("%d states, behind it %d", len(p.Space[3].Auto.Out), len(q.Space[3].Auto.Out))
	}
	r := rand.New(rand.NewSource(9))
	for range 50 {
		wantSays(t, p, q, randomRequest(r))
	}
}

package lower_test

import (
	"fmt"
	"math/rand"
	"regexp"
	"slices"
	"strings"
	"testing"

	"lychgate/api"
	"lychgate/lower"
	"lychgate/space"
)

var nameForm = regexp.MustCompile(`\A[a-z][a-z0-9_-]{0,31}\z`)

const ownWords = " let allow deny when and or not true false in addr port method path header has "

func isName(s string) bool {
	return nameForm.MatchString(s) && !strings.Contains(ownWords, " "+s+" ")
}

// wordsRight is whether a program is right, by the chapter's words, one behind the other.
func wordsRight(p api.Program) bool {
	return space.Right(p.Space) && wordsOrder(p) && wordsRules(p) && wordsNodes(p)
}

func wordsOrder(p api.Program) bool {
	for at := range p.Space {
		if !slices.Contains(p.Order, at) {
			return false
		}
	}
	return len(p.Order) == len(p.Space)
}

func wordsRules(p api.Program) bool {
	for i, x := range p.Rules {
		if x.Policy != 0 && x.Policy != 1 || i > 0 && p.Rules[i-1].Policy > x.Policy {
			return false
		}
		if x.Effect != api.ItemAllow && x.Effect != api.ItemDeny || !isName(x.Name) {
			return false
		}
	}
	return len(p.Rules) <= 200
}

func wordsNodes(p api.Program) bool {
	there := map[string]bool{}
	for i, n := range p.Nodes {
		if n.Level < 0 || n.Level >= len(p.Order) || len(n.Kids) != p.Space[p.Order[n.Level]].Size || there[tell(n)] {
			return false
		}
		there[tell(n)] = true
		for _, kid := range n.Kids {
			if kid < 0 || kid >= i+2 || kid > 1 && p.Nodes[kid-2].Level <= n.Level {
				return false
			}
		}
		if slices.Min(n.Kids) == slices.Max(n.Kids) {
			return false
		}
	}
	met := map[int]bool{0: true, 1: true}
	var ended []int
	var through func(f int)
	through = func(f int) {
		if met[f] {
			return
		}
		met[f] = true
		for _, kid := range p.Nodes[f-2].Kids {
			through(kid)
		}
		ended = append(ended, f)
	}
	for _, x := range p.Rules {
		if x.Root < 0 || x.Root >= len(p.Nodes)+2 {
			return false
		}
		through(x.Root)
	}
	for i, f := range ended {
		if f != i+2 {
			return false
		}
	}
	return len(ended) == len(p.Nodes) && len(ended) <= api.MaxNodes
}

// wantRight also looks at what all calls say that take a program.
func wantRight(t *testing.T, what string, p api.Program, want bool) {
	t.Helper()
	if got := lower.Right(p); got != want {
		t.Errorf("%s: %v", what, got)
	}
	if wordsRight(p) != want {
		t.Errorf("%s: by the words %v", what, !want)
	}
	if want {
		return
	}
	for _, most := range []int{0, len(p.Nodes) % api.MaxNodes, api.MaxNodes, -1} {
		wantNotOpen(t, api.ErrArg, p, most)
	}
	if v, e := lower.Judge(p, 0, api.Request{Method: "GET", Path: "/"}); v != 0 || e != api.ErrArg {
		t.Errorf("%s: Judge: %d, error %d", what, v, e)
	}
}

// changed is the program of chapter, and a has beside, with something else in it.
func wantWrong(t *testing.T, what string, change func(p *api.Program)) {
	t.Helper()
	p := program(t, chapter+`deny c when has "k" or port in {80};`)
	wantRight(t, what+": ahead of it", p, true)
	change(&p)
	wantRight(t, what, p, false)
}

func TestWrongSpaces(t *testing.T) {
	wantWrong(t, "no space", func(p *api.Program) { p.Space = nil })
	wantWrong(t, "neither space nor order", func(p *api.Program) { p.Space, p.Order = nil, nil })
	wantWrong(t, "nothing", func(p *api.Program) { *p = api.Program{} })
	wantWrong(t, "an attribute too few", func(p *api.Program) { p.Space = p.Space[:4] })
	wantWrong(t, "an attribute and its place too few", func(p *api.Program) { p.Space, p.Order = p.Space[:3], p.Order[:3] })
	wantWrong(t, "attributes in another order", func(p *api.Program) { p.Space[0], p.Space[1] = p.Space[1], p.Space[0] })
	wantWrong(t, "a size", func(p *api.Program) { p.Space[1].Size = 3 })
	wantWrong(t, "a size of none", func(p *api.Program) { p.Space[0].Size = 0 })
	wantWrong(t, "a name", func(p *api.Program) { p.Space[4].Name = "K" })
	wantWrong(t, "cuts", func(p *api.Program) { p.Space[1].Cuts = p.Space[1].Cuts[1:] })
	wantWrong(t, "an automaton", func(p *api.Program) { p.Space[3].Auto.Out[0] = 1 })
	// What is an attribute for itself need not stand there.
	wantWrong(t, "a header twice", func(p *api.Program) {
		p.Space = append(p.Space, p.Space[4])
		p.Order = append(p.Order, 5)
	})
}

func TestWrongOrders(t *testing.T) {
	wantWrong(t, "no order", func(p *api.Program) { p.Order = nil })
	wantWrong(t, "a place too few", func(p *api.Program) { p.Order = p.Order[:4] })
	wantWrong(t, "a place too many", func(p *api.Program) { p.Order = append(p.Order, 5) })
	wantWrong(t, "a place that stands again behind all", func(p *api.Program) { p.Order = append(p.Order, 0) })
	wantWrong(t, "a place twice", func(p *api.Program) { p.Order[0] = 3 })
	wantWrong(t, "levels that others' nodes have", func(p *api.Program) { p.Order = []int{1, 2, 0, 3, 4} })
	for _, n := range append(farNumbers(), 5) {
		wantWrong(t, fmt.Sprint("the place ", n), func(p *api.Program) { p.Order[0] = n })
	}
	// Attributes of the same size may change places: it is another program, but a right one.
	p := program(t, chapter)
	p.Order = []int{3, 2, 1, 0}
	wantRight(t, "another order", p, true)
}

func TestWrongRules(t *testing.T) {
	for _, n := range append(farNumbers(), 2, 3) {
		wantWrong(t, fmt.Sprint("the policy ", n), func(p *api.Program) { p.Rules[2].Policy = n })
		wantWrong(t, fmt.Sprint("the policy of all ", n), func(p *api.Program) {
			for i := range p.Rules {
				p.Rules[i].Policy = n
			}
		})
	}
	wantWrong(t, "policies fall", func(p *api.Program) { p.Rules[1].Policy = 1 })
	wantWrong(t, "policies fall at once", func(p *api.Program) { p.Rules[0].Policy = 1 })
	for _, n := range append(farNumbers(), 0, api.ItemLet, 4) {
		wantWrong(t, fmt.Sprint("the effect ", n), func(p *api.Program) { p.Rules[0].Effect = n })
	}
	for _, s := range []string{"", "A", "1", "when", "has", "a b", "-a", "a\n", strings.Repeat("a", 33), "ä", "a."} {
		wantWrong(t, "the name "+s, func(p *api.Program) { p.Rules[1].Name = s })
	}
	for _, n := range append(farNumbers(), 7, 8) {
		wantWrong(t, fmt.Sprint("the root ", n), func(p *api.Program) { p.Rules[1].Root = n })
	}
	p := program(t, chapter)
	p.Rules[1].Policy, p.Rules[0].Name, p.Rules[1].Name = 1, strings.Repeat("z", 32), strings.Repeat("z", 32)
	wantRight(t, "names twice", p, true)
	p.Rules[0].Policy = 1
	wantRight(t, "no rule of the first policy", p, true)
	p.Nodes, p.Rules = nil, nil
	wantRight(t, "no rule", p, true)
	p.Nodes, p.Rules = []api.Node{}, []api.Ruled{}
	wantRight(t, "empty lists", p, true)
}

func TestAsManyRulesAsMayBe(t *testing.T) {
	p := program(t, chapter)
	for len(p.Rules) < 200 {
		p.Rules = append(p.Rules, api.Ruled{Policy: 1, Effect: api.ItemDeny, Name: "z", Root: len(p.Rules) % 5})
	}
	wantRight(t, "200 rules", p, true)
	p.Rules = append(p.Rules, p.Rules[199])
	wantRight(t, "201 rules", p, false)
}

// The program's nodes: 2: GET; 3: 80 and GET; 4: 80; 5: has; 6: 80 or has.
func TestWrongNodes(t *testing.T) {
	wantWrong(t, "no nodes", func(p *api.Program) { p.Nodes = nil })
	wantWrong(t, "a node too few", func(p *api.Program) { p.Nodes = p.Nodes[:4] })
	wantWrong(t, "a node that is left over", func(p *api.Program) { p.Nodes = append(p.Nodes, node(0, 0)) })
	wantWrong(t, "a node behind all that nobody leads to", func(p *api.Program) { p.Nodes = append(p.Nodes, node(1, 1, 0)) })
	wantWrong(t, "a node between that nobody leads to", func(p *api.Program) { p.Rules[1].Root = 3 })
	wantWrong(t, "nodes of a rule that is gone", func(p *api.Program) { p.Rules = p.Rules[:2] })
	wantWrong(t, "a node of no rule", func(p *api.Program) { p.Rules = nil })
	wantWrong(t, "rules in another order", func(p *api.Program) { p.Rules[0], p.Rules[1] = p.Rules[1], p.Rules[0] })
	wantWrong(t, "a node twice", func(p *api.Program) {
		p.Nodes = append(p.Nodes, node(1, 0, 1))
		p.Rules = append(p.Rules, api.Ruled{Effect: api.ItemDeny, Name: "z", Root: 7})
	})
	wantWrong(t, "a node twice, as one ahead", func(p *api.Program) { p.Nodes[2] = p.Nodes[1] })
	wantWrong(t, "a node that leads to one and the same", func(p *api.Program) { p.Nodes[2].Kids[0] = 1 })
	wantWrong(t, "a node that leads to one and the same node", func(p *api.Program) { p.Nodes[1].Kids[0] = 2 })
	wantWrong(t, "a node of one class", func(p *api.Program) { p.Nodes[2] = node(0, 1) })
	wantWrong(t, "a node that leads to itself", func(p *api.Program) { p.Nodes[1].Kids[1] = 3 })
	wantWrong(t, "a node that leads to one behind it", func(p *api.Program) { p.Nodes[1].Kids[1] = 5 })
	wantWrong(t, "a node that leads to its own level", func(p *api.Program) { p.Nodes[4].Kids[1] = 4 })
	wantWrong(t, "a node that leads upwards", func(p *api.Program) { p.Nodes[3].Kids[1] = 2 })
	wantWrong(t, "kids too few", func(p *api.Program) { p.Nodes[2].Kids = []int{0} })
	wantWrong(t, "no kids", func(p *api.Program) { p.Nodes[2].Kids = nil })
	wantWrong(t, "kids too many", func(p *api.Program) { p.Nodes[2].Kids = []int{0, 1, 1} })
	for _, n := range append(farNumbers(), 5, 7) {
		wantWrong(t, fmt.Sprint("the kid ", n), func(p *api.Program) { p.Nodes[2].Kids[1] = n })
		wantWrong(t, fmt.Sprint("the level ", n), func(p *api.Program) { p.Nodes[2].Level = n })
	}
}

// Nodes that each stand behind what they lead to, but not where post-order has them.
func TestNodesInAnotherOrder(t *testing.T) {
	swap := func(i, k int) func(p *api.Program) {
		return func(p *api.Program) {
			p.Nodes[i], p.Nodes[k] = p.Nodes[k], p.Nodes[i]
			to := upTo(7)
			to[i+2], to[k+2] = k+2, i+2
			for _, n := range p.Nodes {
				for class, kid := range n.Kids {
					n.Kids[class] = to[kid]
				}
			}
			for r, x := range p.Rules {
				p.Rules[r].Root = to[x.Root]
			}
		}
	}
	wantWrong(t, "80 ahead of 80 and GET", swap(1, 2))
	wantWrong(t, "has ahead of 80", swap(2, 3))
	wantWrong(t, "GET behind 80 and GET", swap(0, 1))
	// What a node leads to is gone through by rising classes.
	p := program(t, `allow a when method in {GET} and path ~ "/a" or method in {PUT} and path ~ "/b" or method in {A};`)
	nodes := []api.Node{node(3, 0, 1, 0), node(3, 0, 0, 1), node(2, 1, 0, 2, 3)}
	if tell(p.Nodes) != tell(nodes) {
		t.Fatalf("%v", p.Nodes)
	}
	wantRight(t, "by rising classes", p, true)
	p.Nodes[0], p.Nodes[1], p.Nodes[2].Kids = p.Nodes[1], p.Nodes[0], []int{1, 0, 3, 2}
	wantRight(t, "by falling classes", p, false)
}

// Changes at random to right programs, against the chapter's words.
func TestRightAtRandom(t *testing.T) {
	r := rand.New(rand.NewSource(23))
	met := map[bool]int{}
	for range 40 {
		p := randomProgram(t, r)
		if !lower.Right(p) || !wordsRight(p) {
			t.Fatalf("not right: %+v", p)
		}
		for range 60 {
			q := copyOf(p)
			for range 1 + r.Intn(2) {
				change(r, &q)
			}
			want := wordsOrder(q) && wordsRules(q) && wordsNodes(q)
			if lower.Right(q) != want {
				t.Fatalf("%+v: %v", q, !want)
			}
			met[want]++
		}
	}
	if met[true] < 200 || met[false] < 1000 {
		t.Errorf("%v", met)
	}
}

// change is one that may leave a program right.
func change(r *rand.Rand, p *api.Program) {
	if len(p.Nodes) == 0 || len(p.Rules) == 0 {
		p.Rules = append(p.Rules, api.Ruled{Policy: r.Intn(2), Effect: 2 + r.Intn(2), Name: "n", Root: r.Intn(3)})
		return
	}
	i, k := r.Intn(len(p.Nodes)), r.Intn(len(p.Rules))
	switch r.Intn(9) {
	case 0:
		p.Nodes[i].Kids[r.Intn(len(p.Nodes[i].Kids))] = r.Intn(i + 3)
	case 1:
		p.Nodes[i].Level = r.Intn(len(p.Order) + 1)
	case 2:
		p.Rules[k].Root = r.Intn(len(p.Nodes) + 3)
	case 3:
		p.Rules = append(p.Rules, p.Rules[k])
	case 4:
		p.Rules = slices.Delete(p.Rules, k, k+1)
	case 5:
		p.Nodes = slices.Insert(p.Nodes, i, p.Nodes[r.Intn(len(p.Nodes))])
	case 6:
		p.Nodes = p.Nodes[:i]
	case 7:
		p.Rules[k].Policy = r.Intn(3)
	case 8:
		at, to := r.Intn(len(p.Order)), r.Intn(len(p.Order))
		p.Order[at], p.Order[to] = p.Order[to], p.Order[at]
	}
}

package bundle_test

import (
	"math/rand"
	"slices"
	"strings"
	"sync"
	"testing"

	"lychgate/api"
	"lychgate/bundle"
	"lychgate/lower"
	"lychgate/pass"
	"lychgate/space"
)

func TestSealWithoutRules(t *testing.T) {
	for _, s := range []string{"", "allow a when false;", "deny a when true;", "allow a when true; deny b when true;", "let a = true;"} {
		p := program(t, s)
		x, _ := space.Build(nil)
		for _, most := range []int{0, 1, api.MaxNodes} {
			wantSeal(t, p, most, api.Image{Space: x, Order: []int{0, 1, 2, 3}})
		}
	}
	p := program(t, "allow a when true;")
	wantSeal(t, p, 0, api.Image{Space: p.Space, Order: []int{0, 1, 2, 3}, Root: 1})
	// The space is the program's, though no rule asks it.
	p = program(t, "let a = port in {80}; deny b when false;")
	wantSeal(t, p, 0, api.Image{Space: p.Space, Order: []int{0, 1, 2, 3}})
	if p.Space[1].Size != 2 {
		t.Errorf("%d classes", p.Space[1].Size)
	}
}

func TestSealOfOneNode(t *testing.T) {
	p := program(t, "allow a when method in {GET};")
	wantSeal(t, p, 1, api.Image{Space: p.Space, Order: []int{0, 1, 2, 3}, Nodes: []api.Node{node(2, 0, 1)}, Root: 2})
	wantNotSealed(t, p, 0, api.ErrNodeLimit)
	p = program(t, "allow a when true; deny b when method in {GET};")
	wantSeal(t, p, 2, api.Image{Space: p.Space, Order: []int{0, 1, 2, 3}, Nodes: []api.Node{node(2, 1, 0)}, Root: 2})
	wantNotSealed(t, p, 1, api.ErrNodeLimit)
}

// The nodes of the answer alone stay, numbered anew: of the program's only those that are in it, too.
func TestSealNumbersAnew(t *testing.T) {
	p := program(t, `allow a when port in {80} and method in {GET}; deny b when addr in {10.0.0.0/8}; allow c when method in {GET} and path ~ "/a";`)
	// 2: GET; 3: 80 and GET; 4: 10/8; 5: /a; 6: GET and /a.
	if want := []api.Node{node(2, 0, 1), node(1, 0, 2), node(0, 0, 1), node(3, 0, 1), node(2, 0, 5)}; tell(p.Nodes) != tell(want) {
		t.Fatalf("%v", p.Nodes)
	}
	// 7: what is allowed, of the port 80 GET, else 6; 8: not 10/8; 9: both.
	want := api.Image{Space: p.Space, Order: []int{0, 1, 2, 3}, Nodes: []api.Node{node(3, 0, 1), node(2, 0, 2), node(2, 0, 1), node(1, 3, 4), node(0, 5, 0)}, Root: 6}
	for _, most := range []int{8, 9, api.MaxNodes} {
		wantSeal(t, p, most, want)
	}
	for most := range 8 {
		wantNotSealed(t, p, most, api.ErrNodeLimit)
	}
}

// The order is the program's.
func TestSealOfAnotherOrder(t *testing.T) {
	p := program(t, `allow a when addr in {10.0.0.0/8} and method in {GET} or port in {80} and path ~ "/a";`)
	q, e := pass.Order(p, api.MaxNodes)
	if e != api.OK || !slices.Equal(q.Order, []int{0, 2, 1, 3}) {
		t.Fatalf("%v, error %d", q.Order, e)
	}
	wantSeal(t, q, 4, api.Image{Space: p.Space, Order: []int{0, 2, 1, 3}, Nodes: q.Nodes, Root: 5})
	wantSeal(t, p, 6, api.Image{Space: p.Space, Order: []int{0, 1, 2, 3}, Nodes: p.Nodes, Root: 7})
}

func TestSealOfMostThatMayNotBe(t *testing.T) {
	for _, most := range append(farNumbers(), api.MaxNodes+1) {
		for _, p := range []api.Program{program(t, ""), program(t, "allow a when port in {80};"), {}} {
			wantNotSealed(t, p, most, api.ErrArg)
		}
	}
}

// A rule of the policy 1 is told though there is no room.
func TestSealOfTheOtherPolicy(t *testing.T) {
	one := "allow a when port in {80} and method in {GET}; deny b when method in {GET};"
	for _, sources := range [][]string{{"", one}, {one, one}, {one, "allow a when true;"}, {one, "deny a when false;"}} {
		p := program(t, sources...)
		for most := range 5 {
			wantNotSealed(t, p, most, api.ErrArg)
		}
		wantNotSealed(t, p, api.MaxNodes, api.ErrArg)
	}
	// A policy without rules is none of it.
	wantSeal(t, program(t, one, ""), api.MaxNodes, image(t, one))
	wantSeal(t, program(t, one, "let x = port in {80};"), api.MaxNodes, image(t, one))
}

// wantWrongProgram: a program that is not right is told so, though there is no room.
func wantWrongProgram(t *testing.T, what string, change func(p *api.Program)) {
	t.Helper()
	p := program(t, `allow a when port in {80} and method in {GET}; allow b when port in {80}; deny c when has "k" or port in {80};`)
	n := len(p.Nodes)
	if _, e := bundle.Seal(p, n+5); e != api.OK {
		t.Fatalf("%s: ahead of it error %d", what, e)
	}
	change(&p)
	if lower.Right(p) {
		t.Fatalf("%s: no wrong program", what)
	}
	for _, most := range []int{0, 1, n - 1, n, n + 5, api.MaxNodes, -1} {
		wantNotSealed(t, p, most, api.ErrArg)
	}
}

func TestSealOfWhatIsNotRight(t *testing.T) {
	wantWrongProgram(t, "nothing", func(p *api.Program) { *p = api.Program{} })
	wantWrongProgram(t, "no space", func(p *api.Program) { p.Space = nil })
	wantWrongProgram(t, "a space that is not right", func(p *api.Program) { p.Space[1].Size = 3 })
	wantWrongProgram(t, "no order", func(p *api.Program) { p.Order = nil })
	wantWrongProgram(t, "a place twice", func(p *api.Program) { p.Order[0] = 1 })
	wantWrongProgram(t, "no nodes", func(p *api.Program) { p.Nodes = nil })
	wantWrongProgram(t, "a node too many", func(p *api.Program) { p.Nodes = append(p.Nodes, node(1, 1, 0)) })
	wantWrongProgram(t, "a kid that is not there", func(p *api.Program) { p.Nodes[0].Kids[1] = 77 })
	wantWrongProgram(t, "no rules", func(p *api.Program) { p.Rules = nil })
	wantWrongProgram(t, "policies that fall", func(p *api.Program) { p.Rules[0].Policy = 1 })
	wantWrongProgram(t, "no effect", func(p *api.Program) { p.Rules[2].Effect = 0 })
	wantWrongProgram(t, "no name", func(p *api.Program) { p.Rules[1].Name = "" })
	wantWrongProgram(t, "a name that is too long", func(p *api.Program) { p.Rules[1].Name = strings.Repeat("a", api.MaxName+1) })
	wantWrongProgram(t, "a root that is not there", func(p *api.Program) { p.Rules[2].Root = 99 })
	for _, n := range append(farNumbers(), 2) {
		wantWrongProgram(t, "a policy that is none", func(p *api.Program) { p.Rules[2].Policy = n })
	}
}

func TestSealAtRandom(t *testing.T) {
	var lock sync.Mutex
	more, fewer := 0, 0
	inParallel(t, func(t *testing.T, r *rand.Rand) {
		for range 40 {
			p := randomProgram(t, r)
			want, enough := wordsSeal(p)
			for _, most := range []int{enough, enough + 1, api.MaxNodes} {
				wantSeal(t, p, most, want)
			}
			for most := enough - 1; most >= 0; most -= 1 + enough/3 {
				wantNotSealed(t, p, most, api.ErrNodeLimit)
			}
			if !wordsRight(want) {
				t.Fatalf("not right: %s", tellNodes(want))
			}
			lock.Lock()
			if enough > len(p.Nodes) {
				more++
			}
			if len(want.Nodes) < len(p.Nodes) {
				fewer++
			}
			lock.Unlock()
		}
	})
	if more < 50 || fewer < 50 {
		t.Errorf("of %d more is made than there was, of %d less stays", more, fewer)
	}
}

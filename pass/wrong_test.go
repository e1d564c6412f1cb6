package pass_test

import (
	"slices"
	"strings"
	"testing"

	"lychgate/api"
	"lychgate/lower"
	"lychgate/pass"
)

// The attributes are five.
const several = `allow a when port in {80} and method in {GET}; allow b when port in {80}; deny c when has "k" or port in {80};`

// lists are some passes that may be.
func lists() [][]int { return [][]int{nil, {}, {1}, {2}, {3}, {4}, {1, 2, 3, 4}, {4, 4}} }

func TestMostThatMayNotBe(t *testing.T) {
	for _, most := range farNumbers() {
		for _, p := range []api.Program{program(t, several), program(t, ""), program(t, pairs), {}} {
			wantNoOrder(t, p, most, api.ErrArg)
			for _, passes := range lists() {
				wantNotRun(t, p, passes, most, api.ErrArg)
			}
			wantNotRun(t, p, []int{5}, most, api.ErrArg)
		}
	}
	p := program(t, several)
	wantOrder(t, p, api.MaxNodes, mustRun(t, p, api.PassOrder))
	wantRun(t, p, nil, 0, p)
	wantRun(t, p, nil, api.MaxNodes, p)
}

// A pass that is none is told wherever it stands, though those ahead of it have no room, and though there is no program.
func TestPassesThatAreNone(t *testing.T) {
	p := program(t, several, "deny d when method in {GET};")
	for _, n := range append(farNumbers(), 0, 5, 6, 9, 12, 255, 256, 257, 260) {
		for _, passes := range [][]int{{n}, {n, 1}, {1, n}, {4, 3, n, 2, 1}, {2, 2, 2, 2, 2, 2, 2, 2, n}, {n, n}, {n, 0}, {5, n}} {
			for _, most := range []int{0, 1, len(p.Nodes) - 1, len(p.Nodes), 1000, api.MaxNodes, -1, api.MaxNodes + 1} {
				wantNotRun(t, p, passes, most, api.ErrArg)
			}
			wantNotRun(t, program(t, ""), passes, 100, api.ErrArg)
			wantNotRun(t, api.Program{}, passes, 100, api.ErrArg)
		}
	}
	for n := 1; n <= 4; n++ {
		if _, e := pass.Run(p, []int{n}, 1000); e != api.OK {
			t.Errorf("%d: error %d", n, e)
		}
	}
	// What is not in the list, but behind it, counts for nothing.
	wantRun(t, p, []int{0, 5, -1}[:0], 0, p)
	wantRun(t, p, []int{2, 0}[:1], 1000, mustRun(t, p, 2))
}

// wantWrong: a program that is not right is told so, whatever the passes and most are, and though there is no room.
func wantWrong(t *testing.T, what string, change func(p *api.Program)) {
	t.Helper()
	good := program(t, several, "deny d when method in {GET};")
	p := copyOf(good)
	change(&p)
	if lower.Right(p) || !lower.Right(good) {
		t.Fatalf("%s: no wrong program", what)
	}
	for _, most := range []int{0, 1, len(good.Nodes) - 1, len(good.Nodes), 1000, api.MaxNodes, -1, api.MaxNodes + 1} {
		wantNoOrder(t, p, most, api.ErrArg)
		for _, passes := range append(lists(), []int{0}, []int{1, 5}) {
			wantNotRun(t, p, passes, most, api.ErrArg)
		}
	}
}

func TestProgramsThatAreNotRight(t *testing.T) {
	wantWrong(t, "nothing", func(p *api.Program) { *p = api.Program{} })
	wantWrong(t, "no space", func(p *api.Program) { p.Space = nil })
	wantWrong(t, "no headers, though one is asked", func(p *api.Program) { p.Space = p.Space[:4] })
	wantWrong(t, "a space that is not right", func(p *api.Program) { p.Space[1].Size = 3 })
	wantWrong(t, "an attribute of no class", func(p *api.Program) { p.Space[0].Size = 0 })
	wantWrong(t, "an attribute of many classes", func(p *api.Program) { p.Space[3].Size = 1 << 40 })
	wantWrong(t, "another kind", func(p *api.Program) { p.Space[2].Kind = 9 })
	wantWrong(t, "no order", func(p *api.Program) { p.Order = nil })
	wantWrong(t, "an order of too few", func(p *api.Program) { p.Order = p.Order[:4] })
	wantWrong(t, "an order of too many", func(p *api.Program) { p.Order = append(p.Order, 5) })
	wantWrong(t, "a place twice", func(p *api.Program) { p.Order[0] = 1 })
	wantWrong(t, "no such place", func(p *api.Program) { p.Order[0] = 9 })
	wantWrong(t, "a place below 0", func(p *api.Program) { p.Order[0] = -1 })
	wantWrong(t, "no nodes", func(p *api.Program) { p.Nodes = nil })
	wantWrong(t, "a node too few", func(p *api.Program) { p.Nodes = p.Nodes[:len(p.Nodes)-1] })
	wantWrong(t, "a node too many", func(p *api.Program) { p.Nodes = append(p.Nodes, node(1, 1, 0)) })
	wantWrong(t, "a node twice", func(p *api.Program) { p.Nodes = append(p.Nodes, p.Nodes[0]) })
	wantWrong(t, "a node that leads to one thing", func(p *api.Program) { p.Nodes[0].Kids = []int{1, 1} })
	wantWrong(t, "a node of too few kids", func(p *api.Program) { p.Nodes[0].Kids = []int{1} })
	wantWrong(t, "a node of no kids", func(p *api.Program) { p.Nodes[0].Kids = nil })
	wantWrong(t, "a level that is none", func(p *api.Program) { p.Nodes[0].Level = 12 })
	wantWrong(t, "a level below 0", func(p *api.Program) { p.Nodes[0].Level = -1 })
	wantWrong(t, "a kid that is not there", func(p *api.Program) { p.Nodes[0].Kids[1] = 77 })
	wantWrong(t, "a kid below 0", func(p *api.Program) { p.Nodes[0].Kids[1] = -1 })
	wantWrong(t, "a node that leads to itself", func(p *api.Program) { p.Nodes[0].Kids[1] = 2 })
	wantWrong(t, "nodes in another order", func(p *api.Program) {
		p.Nodes[1], p.Nodes[2] = p.Nodes[2], p.Nodes[1]
	})
	wantWrong(t, "no rules", func(p *api.Program) { p.Rules = nil })
	wantWrong(t, "a rule too few", func(p *api.Program) { p.Rules = p.Rules[1:] })
	wantWrong(t, "rules in another order", func(p *api.Program) { p.Rules[0], p.Rules[1] = p.Rules[1], p.Rules[0] })
	wantWrong(t, "policies that fall", func(p *api.Program) { p.Rules[0].Policy = 1 })
	wantWrong(t, "a policy 2", func(p *api.Program) { p.Rules[3].Policy = 2 })
	wantWrong(t, "a policy -1", func(p *api.Program) { p.Rules[0].Policy = -1 })
	wantWrong(t, "a let", func(p *api.Program) { p.Rules[2].Effect = api.ItemLet })
	wantWrong(t, "no effect", func(p *api.Program) { p.Rules[2].Effect = 0 })
	wantWrong(t, "no name", func(p *api.Program) { p.Rules[1].Name = "" })
	wantWrong(t, "a word as a name", func(p *api.Program) { p.Rules[1].Name = "when" })
	wantWrong(t, "a name that is too long", func(p *api.Program) { p.Rules[1].Name = strings.Repeat("a", api.MaxName+1) })
	wantWrong(t, "a root that is not there", func(p *api.Program) { p.Rules[3].Root = 99 })
	wantWrong(t, "a root of -1", func(p *api.Program) { p.Rules[3].Root = -1 })
	wantWrong(t, "201 rules", func(p *api.Program) {
		p.Rules = append(p.Rules, slices.Repeat([]api.Ruled{{Policy: 1, Effect: api.ItemDeny, Name: "z"}}, 197)...)
	})
	wantWrong(t, "a dead rule that may not be", func(p *api.Program) {
		p.Rules = slices.Insert(p.Rules, 1, api.Ruled{Effect: api.ItemAllow, Name: "A"})
	})
}

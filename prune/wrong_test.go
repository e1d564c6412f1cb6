package prune_test

import (
	"slices"
	"strings"
	"testing"

	"lychgate/api"
	"lychgate/lower"
)

func TestMostThatMayNotBe(t *testing.T) {
	for what, do := range calls() {
		for _, most := range farNumbers() {
			wantRefused(t, what, do, ofClasses(t, "+a 0, +b 1, -c 2"), most, api.ErrArg)
			wantRefused(t, what, do, ofClasses(t), most, api.ErrArg)
			wantRefused(t, what, do, api.Program{}, most, api.ErrArg)
		}
	}
}

// wantWrong: a program that is not right is told so, whatever most is, and though there is no room.
func wantWrong(t *testing.T, what string, change func(p *api.Program)) {
	t.Helper()
	good := program(t, `allow a when port in {80} and method in {GET}; allow b when port in {80}; deny c when has "k" or port in {80};`, "deny d when method in {GET};")
	p := copyOf(good)
	change(&p)
	if lower.Right(p) || !lower.Right(good) {
		t.Fatalf("%s: no wrong program", what)
	}
	for name, do := range calls() {
		for _, most := range []int{0, 1, len(good.Nodes) - 1, len(good.Nodes), 1000, api.MaxNodes, -1, api.MaxNodes + 1} {
			wantRefused(t, name+", "+what, do, p, most, api.ErrArg)
		}
		if _, e := do(good, api.MaxNodes); e != api.OK {
			t.Fatalf("%s: error %d", name, e)
		}
	}
}

func TestProgramsThatAreNotRight(t *testing.T) {
	wantWrong(t, "nothing", func(p *api.Program) { *p = api.Program{} })
	wantWrong(t, "no space", func(p *api.Program) { p.Space = nil })
	wantWrong(t, "a space that is not right", func(p *api.Program) { p.Space[1].Size = 3 })
	wantWrong(t, "no order", func(p *api.Program) { p.Order = nil })
	wantWrong(t, "a place twice", func(p *api.Program) { p.Order[0] = 1 })
	wantWrong(t, "no such place", func(p *api.Program) { p.Order[0] = 9 })
	wantWrong(t, "no nodes", func(p *api.Program) { p.Nodes = nil })
	wantWrong(t, "a node too few", func(p *api.Program) { p.Nodes = p.Nodes[:len(p.Nodes)-1] })
	wantWrong(t, "a node too many", func(p *api.Program) { p.Nodes = append(p.Nodes, api.Node{Level: 1, Kids: []int{1, 0}}) })
	wantWrong(t, "a node that leads to one thing", func(p *api.Program) { p.Nodes[0].Kids = []int{1, 1} })
	wantWrong(t, "a node of too few kids", func(p *api.Program) { p.Nodes[0].Kids = []int{1} })
	wantWrong(t, "a level that is none", func(p *api.Program) { p.Nodes[0].Level = 12 })
	wantWrong(t, "a kid that is not there", func(p *api.Program) { p.Nodes[0].Kids[1] = 77 })
	wantWrong(t, "no rules", func(p *api.Program) { p.Rules = nil })
	wantWrong(t, "a rule too few", func(p *api.Program) { p.Rules = p.Rules[1:] })
	wantWrong(t, "rules in another order", func(p *api.Program) { p.Rules[0], p.Rules[1] = p.Rules[1], p.Rules[0] })
	wantWrong(t, "policies that fall", func(p *api.Program) { p.Rules[0].Policy = 1 })
	wantWrong(t, "a policy 2", func(p *api.Program) { p.Rules[3].Policy = 2 })
	wantWrong(t, "a policy -1", func(p *api.Program) { p.Rules[0].Policy = -1 })
	wantWrong(t, "a let", func(p *api.Program) { p.Rules[2].Effect = api.ItemLet })
	wantWrong(t, "no effect", func(p *api.Program) { p.Rules[2].Effect = 0 })
	wantWrong(t, "no name", func(p *api.Program) { p.Rules[1].Name = "" })
	wantWrong(t, "a word as a name", func(p *api.Program) { p.Rules[1].Name = "when" })
	wantWrong(t, "a name that is too long", func(p *api.Program) { p.Rules[1].Name = strings.Repeat("a", api.MaxName+1) })
	wantWrong(t, "a root that is not there", func(p *api.Program) { p.Rules[3].Root = 99 })
	wantWrong(t, "a root of -1", func(p *api.Program) { p.Rules[3].Root = -1 })
	// A rule that goes, or is put into another one, must be right, too.
	wantWrong(t, "a dead rule", func(p *api.Program) { p.Rules = slices.Insert(p.Rules, 1, api.Ruled{Effect: api.ItemAllow, Name: "A"}) })
	wantWrong(t, "201 rules", func(p *api.Program) {
		p.Rules = append(p.Rules, slices.Repeat([]api.Ruled{{Policy: 1, Effect: api.ItemDeny, Name: "z"}}, 197)...)
	})
}

// As many rules as may be.
func TestAsManyRulesAsMayBe(t *testing.T) {
	row := func(rule string, n int) string { return strings.Join(slices.Repeat([]string{rule}, n), ", ") }
	wantDead(t, []string{row("+a 0", 200)}, []string{"+a 0"})
	wantMerge(t, []string{row("+a 0", 200)}, []string{"+a 0"})
	wantDead(t, []string{row("-a 0, +b 1", 50), row("+c 1, -d 2", 50)}, []string{"-a 0, +b 1", "+c 1, -d 2"})
	wantMerge(t, []string{row("-a 0, +b 1", 50), row("+c 1, -d 2", 50)}, []string{row("-a 0, +b 1", 50), row("+c 1, -d 2", 50)})
	wantMerge(t, []string{row("-a 0, -b 1", 50), row("-c 1, -d 2", 50)}, []string{"-a 01", "-c 12"})
}

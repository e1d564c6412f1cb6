package fuse_test

import (
	"fmt"
	"slices"
	"strings"
	"testing"

	"lychgate/api"
	"lychgate/fuse"
	"lychgate/lower"
)

// The attributes are five.
const several = `allow a when port in {80} and method in {GET}; allow b when port in {80}; deny c when has "k" or port in {80};`

func TestAttributesThatAreNone(t *testing.T) {
	p := program(t, several, "deny d when method in {GET};")
	for _, attr := range append(farNumbers(), 5, 6, 11, 12, 255, 256, 8192) {
		// Also where there is no room for the program, and where most may not be.
		for _, most := range []int{0, 1, len(p.Nodes) - 1, len(p.Nodes), 1000, api.MaxNodes, -1, api.MaxNodes + 1} {
			wantNotAlike(t, p, attr, most, api.ErrArg)
			wantNotAlike(t, program(t, ""), attr, most, api.ErrArg)
			wantNotAlike(t, api.Program{}, attr, most, api.ErrArg)
		}
	}
	for attr := range 5 {
		if l, e := fuse.Alike(p, attr, 1000); e != api.OK || len(l) != p.Space[attr].Size {
			t.Errorf("%d: %v, error %d", attr, l, e)
		}
	}
	// Where there are no headers the last place is 3.
	wantNotAlike(t, program(t, "allow a when true;"), 4, 100, api.ErrArg)
	wantAlike(t, program(t, "allow a when true;"), 3, []int{0}, 0)
}

func TestMostThatMayNotBe(t *testing.T) {
	for _, most := range farNumbers() {
		for _, p := range []api.Program{program(t, several), program(t, ""), program(t, chapter), {}} {
			for attr := -1; attr < 6; attr++ {
				wantNotAlike(t, p, attr, most, api.ErrArg)
			}
			wantNotFused(t, p, most, api.ErrArg)
		}
	}
}

// wantWrong: a program that is not right is told so, whatever the attribute and most are, and though there is no room.
func wantWrong(t *testing.T, what string, change func(p *api.Program)) {
	t.Helper()
	good := program(t, several, "deny d when method in {GET};")
	p := copyOf(good)
	change(&p)
	if lower.Right(p) || !lower.Right(good) {
		t.Fatalf("%s: no wrong program", what)
	}
	for _, most := range []int{0, 1, len(good.Nodes) - 1, len(good.Nodes), 1000, api.MaxNodes, -1, api.MaxNodes + 1} {
		for _, attr := range append(upTo(9), -1, 12, 256) {
			wantNotAlike(t, p, attr, most, api.ErrArg)
		}
		wantNotFused(t, p, most, api.ErrArg)
	}
	if _, e := fuse.Fuse(good, api.MaxNodes); e != api.OK {
		t.Fatalf("error %d", e)
	}
}

func TestProgramsThatAreNotRight(t *testing.T) {
	wantWrong(t, "nothing", func(p *api.Program) { *p = api.Program{} })
	wantWrong(t, "no space", func(p *api.Program) { p.Space = nil })
	wantWrong(t, "no headers, though one is asked", func(p *api.Program) { p.Space = p.Space[:4] })
	wantWrong(t, "a space that is not right", func(p *api.Program) { p.Space[1].Size = 3 })
	wantWrong(t, "an attribute of no class", func(p *api.Program) { p.Space[0].Size = 0 })
	wantWrong(t, "an attribute of many classes", func(p *api.Program) { p.Space[3].Size = 1 << 40 })
	wantWrong(t, "an attribute of less than no class", func(p *api.Program) { p.Space[4].Size = -1 })
	wantWrong(t, "another kind", func(p *api.Program) { p.Space[2].Kind = 9 })
	wantWrong(t, "no order", func(p *api.Program) { p.Order = nil })
	wantWrong(t, "an order of too few", func(p *api.Program) { p.Order = p.Order[:4] })
	wantWrong(t, "an order of too many", func(p *api.Program) { p.Order = append(p.Order, 5) })
	wantWrong(t, "a place twice", func(p *api.Program) { p.Order[0] = 1 })
	wantWrong(t, "no such place", func(p *api.Program) { p.Order[0] = 9 })
	wantWrong(t, "a place below 0", func(p *api.Program) { p.Order[0] = -1 })
	wantWrong(t, "no nodes", func(p *api.Program) { p.Nodes = nil })
	wantWrong(t, "a node too few", func(p *api.Program) { p.Nodes = p.Nodes[:len(p.Nodes)-1] })
	wantWrong(t, "a node too many", func(p *api.Program) { p.Nodes = append(p.Nodes, api.Node{Level: 1, Kids: []int{1, 0}}) })
	wantWrong(t, "a node twice", func(p *api.Program) { p.Nodes = append(p.Nodes, p.Nodes[0]) })
	wantWrong(t, "a node that leads to one thing", func(p *api.Program) { p.Nodes[0].Kids = []int{1, 1} })
	wantWrong(t, "a node of too few kids", func(p *api.Program) { p.Nodes[0].Kids = []int{1} })
	wantWrong(t, "a node of too many kids", func(p *api.Program) { p.Nodes[0].Kids = []int{1, 0, 1} })
	wantWrong(t, "a node of no kids", func(p *api.Program) { p.Nodes[0].Kids = nil })
	wantWrong(t, "a level that is none", func(p *api.Program) { p.Nodes[0].Level = 12 })
	wantWrong(t, "a level below 0", func(p *api.Program) { p.Nodes[0].Level = -1 })
	wantWrong(t, "a kid that is not there", func(p *api.Program) { p.Nodes[0].Kids[1] = 77 })
	wantWrong(t, "a kid below 0", func(p *api.Program) { p.Nodes[0].Kids[1] = -1 })
	wantWrong(t, "a node that leads to itself", func(p *api.Program) { p.Nodes[0].Kids[1] = 2 })
	wantWrong(t, "nodes in another order", func(p *api.Program) {
		p.Nodes[1], p.Nodes[2] = p.Nodes[2], p.Nodes[1]
	})
	wantWrong(t, "no rules", func(p *api.Program) { p.Rules = nil })
	wantWrong(t, "a rule too few", func(p *api.Program) { p.Rules = p.Rules[1:] })
	wantWrong(t, "rules in another order", func(p *api.Program) { p.Rules[0], p.Rules[1] = p.Rules[1], p.Rules[0] })
	wantWrong(t, "policies that fall", func(p *api.Program) { p.Rules[0].Policy = 1 })
	wantWrong(t, "a policy 2", func(p *api.Program) { p.Rules[3].Policy = 2 })
	wantWrong(t, "a policy -1", func(p *api.Program) { p.Rules[0].Policy = -1 })
	wantWrong(t, "a let", func(p *api.Program) { p.Rules[2].Effect = api.ItemLet })
	wantWrong(t, "no effect", func(p *api.Program) { p.Rules[2].Effect = 0 })
	wantWrong(t, "no name", func(p *api.Program) { p.Rules[1].Name = "" })
	wantWrong(t, "a word as a name", func(p *api.Program) { p.Rules[1].Name = "when" })
	wantWrong(t, "a name that is too long", func(p *api.Program) { p.Rules[1].Name = strings.Repeat("a", api.MaxName+1) })
	wantWrong(t, "a root that is not there", func(p *api.Program) { p.Rules[3].Root = 99 })
	wantWrong(t, "a root of -1", func(p *api.Program) { p.Rules[3].Root = -1 })
	wantWrong(t, "201 rules", func(p *api.Program) {
		p.Rules = append(p.Rules, slices.Repeat([]api.Ruled{{Policy: 1, Effect: api.ItemDeny, Name: "z"}}, 197)...)
	})
}

// What may not be is told ahead of what there is no room for; no room is told of Open, or of what comes behind it.
func TestWhichErrorIsTold(t *testing.T) {
	p := ofTables(t, portFirst(), "+a 010/101/010")
	for most := range 5 {
		for _, attr := range []int{-1, 4} {
			wantNotAlike(t, p, attr, most, api.ErrArg)
		}
		wantNotAlike(t, p, 2, most, api.ErrNodeLimit)
		wantNotFused(t, p, most, api.ErrNodeLimit)
	}
	// Open has no room.
	for most := range 3 {
		for attr := range 4 {
			wantNotAlike(t, p, attr, most, api.ErrNodeLimit)
		}
	}
	bad := copyOf(p)
	bad.Nodes[2].Kids[2] = 4
	for most := -1; most < 7; most++ {
		wantNotFused(t, bad, most, api.ErrArg)
		for attr := -1; attr < 5; attr++ {
			wantNotAlike(t, bad, attr, most, api.ErrArg)
		}
	}
}

// The last attribute's place hangs on how many headers there are.
func TestProgramsOfEachNumberOfHeaders(t *testing.T) {
	first, second := "let x = true;", "let x = true;"
	for n := range 8 {
		if s := fmt.Sprintf("allow h%d when has %q;", n, string(rune('a'+n))); n < 4 {
			first += s
		} else {
			second += s
		}
		p := program(t, first, second)
		if len(p.Space) != 5+n {
			t.Fatalf("%d attributes", len(p.Space))
		}
		wantAlike(t, p, 4+n, []int{0, 1}, n+1)
		wantNotAlike(t, p, 5+n, 100, api.ErrArg)
		wantFused(t, p, p, n+1)
	}
}

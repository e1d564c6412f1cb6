package lower

import (
	"slices"
	"strings"

	"lychgate/api"
	"lychgate/arena"
	"lychgate/dd"
	"lychgate/lex"
	"lychgate/space"
)

// Refs, by layer 14.
const (
	no        = 0
	yes       = 1
	firstNode = 2
)

// maxRules are as many as two policies have items.
const maxRules = 2 * api.MaxItems

// upTo are the first n numbers.
func upTo(n int) []int {
	out := make([]int, n)
	for i := range out {
		out[i] = i
	}
	return out
}

// isOrdered: is it a right space, and an order of its attributes?
func isOrdered(x []api.Attr, order []int) bool {
	return len(order) == len(x) && slices.Equal(slices.Sorted(slices.Values(order)), upTo(len(x))) && space.Right(x)
}

// sizesBy are the sizes of the levels, of an order that may be.
func sizesBy(x []api.Attr, order []int) []int {
	var out []int
	for _, at := range order {
		out = append(out, x[at].Size)
	}
	return out
}

func isEffect(n int) bool { return n == api.ItemAllow || n == api.ItemDeny }

// areRules: may a program have these, with roots in that arena?
func areRules(a *arena.Arena, l []api.Ruled) bool {
	policy := 0
	for _, x := range l {
		if x.Policy < policy || x.Policy > 1 || !isEffect(x.Effect) || !lex.IsName(x.Name) || !a.Has(x.Root) {
			return false
		}
		policy = x.Policy
	}
	return len(l) <= maxRules
}

func rootsOf(l []api.Ruled) []int {
	var out []int
	for _, x := range l {
		out = append(out, x.Root)
	}
	return out
}

// laid is an arena, of so many nodes at most, that has a program's nodes at their numbers; false, if the program is not right.
func laid(p api.Program, most int) (*arena.Arena, bool) {
	if !isOrdered(p.Space, p.Order) {
		return nil, false
	}
	a, e := arena.New(sizesBy(p.Space, p.Order), most)
	if e != api.OK || !putIn(a, p.Nodes) || !areRules(a, p.Rules) {
		return nil, false
	}
	l, _ := dd.Nodes(a, rootsOf(p.Rules))
	for i, f := range l {
		if f != firstNode+i {
			return nil, false
		}
	}
	return a, len(l) == len(p.Nodes)
}

// putIn: does each node get its number in an arena that has none? One that may not be, or is there already, does not.
func putIn(a *arena.Arena, l []api.Node) bool {
	for i, n := range l {
		if f, e := a.Make(n.Level, n.Kids); e != api.OK || f != firstNode+i {
			return false
		}
	}
	return true
}

// takenOut are the nodes of rules' roots in an arena as a program numbers them, and the rules with their roots there.
func takenOut(a *arena.Arena, l []api.Ruled) ([]api.Node, []api.Ruled) {
	refs, _ := dd.Nodes(a, rootsOf(l))
	numbers := map[int]int{no: no, yes: yes}
	var nodes []api.Node
	for i, f := range refs {
		n, _ := a.Node(f)
		for class, kid := range n.Kids {
			n.Kids[class] = numbers[kid] // in post-order it has one already
		}
		nodes = append(nodes, n)
		numbers[f] = firstNode + i
	}
	var rules []api.Ruled
	for _, x := range l {
		x.Name, x.Root = strings.Clone(x.Name), numbers[x.Root]
		rules = append(rules, x)
	}
	return nodes, rules
}

// copied is a space that has no memory in common with one.
func copied(x []api.Attr) []api.Attr {
	out := slices.Clone(x)
	for i, y := range out {
		y.Name = strings.Clone(y.Name)
		y.Rows = slices.Clone(y.Rows)
		y.Cuts = slices.Clone(y.Cuts)
		y.Methods = slices.Clone(y.Methods)
		for k, m := range y.Methods {
			y.Methods[k].Name = strings.Clone(m.Name)
		}
		y.Auto = api.Auto{Bytes: strings.Clone(y.Auto.Bytes), Next: slices.Clone(y.Auto.Next), Out: slices.Clone(y.Auto.Out)}
		out[i] = y
	}
	return out
}

// total leaves behind what it made where there is no room.
func total(a *arena.Arena, l []api.Ruled, policy int) (int, api.Errno) {
	denied, e := anyOf(a, l, policy, api.ItemDeny)
	if e != api.OK {
		return no, e
	}
	allowed, e := anyOf(a, l, policy, api.ItemAllow)
	if e != api.OK {
		return no, e
	}
	passed, e := dd.Not(a, denied)
	if e != api.OK {
		return no, e
	}
	return dd.And(a, allowed, passed)
}

// anyOf is true where a rule of that policy and effect is.
func anyOf(a *arena.Arena, l []api.Ruled, policy, effect int) (int, api.Errno) {
	f, e := no, api.OK
	for _, x := range l {
		if x.Policy != policy || x.Effect != effect {
			continue
		}
		if f, e = dd.Or(a, f, x.Root); e != api.OK {
			return no, e
		}
	}
	return f, api.OK
}

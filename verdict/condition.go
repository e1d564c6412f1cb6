package verdict

import (
	"slices"

	"lychgate/api"
	"lychgate/atom"
)

// condition is one of a policy that was taken: its names and tests are found already, so what is left to ask are answers.
type condition interface {
	isCondition()
}

type (
	fixed struct{ is bool }          // holds always, or never
	named struct{ item int }         // what the let at that place says
	not   struct{ kid condition }    // holds if its part does not
	every struct{ kids []condition } // holds if all its parts do
	some  struct{ kids []condition } // holds if one of its parts does
	test  struct{ number int }       // holds if the request passes that test
)

func (fixed) isCondition() {}
func (named) isCondition() {}
func (not) isCondition()   {}
func (every) isCondition() {}
func (some) isCondition()  {}
func (test) isCondition()  {}

// reader makes conditions of what is written, in a policy that was taken.
type reader struct {
	items []api.Item
	tests []api.Atom // all of the policy
}

func (d *reader) read(c api.Cond) condition {
	switch c.Kind {
	case api.CondTrue:
		return fixed{true}
	case api.CondFalse:
		return fixed{false}
	case api.CondName:
		return named{d.let(c.Name)}
	case api.CondNot:
		return not{d.read(c.Kids[0])}
	case api.CondAnd:
		return every{d.parts(c)}
	case api.CondOr:
		return some{d.parts(c)}
	}
	return test{d.test(c)}
}

func (d *reader) parts(c api.Cond) []condition {
	var kids []condition
	for _, kid := range c.Kids {
		kids = append(kids, d.read(kid))
	}
	return kids
}

// let is the place of the let of a name: lets and rules have one space of names, so no other item has it.
func (d *reader) let(name string) int {
	return slices.IndexFunc(d.items, func(x api.Item) bool { return x.Name == name })
}

// test is the number of a condition's test.
func (d *reader) test(c api.Cond) int {
	a, _ := atom.Of(c) // a policy that was taken has no condition that Of refuses
	return slices.IndexFunc(d.tests, func(b api.Atom) bool { return atom.Same(a, b) })
}

package atom

import (
	"slices"

	"lychgate/api"
)

// finder goes through policies, and keeps each test where it stands first.
type finder struct {
	found []api.Atom
}

// policy: have all of a right policy's conditions a test, where they must?
func (f *finder) policy(p api.Policy) bool {
	for _, x := range p.Items {
		if !f.cond(x.Cond) {
			return false
		}
	}
	return true
}

func (f *finder) cond(c api.Cond) bool {
	switch c.Kind {
	case api.CondTrue, api.CondFalse, api.CondName:
		return true
	case api.CondNot, api.CondAnd, api.CondOr:
		return f.parts(c.Kids)
	}
	a, e := Of(c)
	if e != api.OK {
		return false
	}
	f.keep(a)
	return true
}

func (f *finder) parts(l []api.Cond) bool {
	for _, c := range l {
		if !f.cond(c) {
			return false
		}
	}
	return true
}

func (f *finder) keep(a api.Atom) {
	there := func(b api.Atom) bool { return Same(a, b) }
	if !slices.ContainsFunc(f.found, there) {
		f.found = append(f.found, a)
	}
}

package lower

import (
	"slices"

	"lychgate/api"
	"lychgate/arena"
	"lychgate/atom"
	"lychgate/dd"
	"lychgate/space"
)

// maker makes the conditions of policies that were taken: each level of its arena asks the attribute at that place.
type maker struct {
	arena *arena.Arena
	space []api.Attr
	tests []api.Atom  // all of the policies
	made  map[int]int // of tests, by their numbers: one that stands there again needs no second look at its classes
}

// policies are the rules of all policies, with roots in the arena.
func (m *maker) policies(l []api.Policy) ([]api.Ruled, api.Errno) {
	var out []api.Ruled
	for number, p := range l {
		rules, e := m.policy(number, p)
		if e != api.OK {
			return nil, e
		}
		out = append(out, rules...)
	}
	return out, api.OK
}

func (m *maker) policy(number int, p api.Policy) ([]api.Ruled, api.Errno) {
	lets := map[string]int{}
	put := m.conditions(lets)
	var out []api.Ruled
	for _, x := range p.Items {
		f, e := put(x.Cond)
		if e != api.OK {
			return nil, e
		}
		if x.Kind == api.ItemLet {
			lets[x.Name] = f
		} else {
			out = append(out, api.Ruled{Policy: number, Effect: x.Kind, Name: x.Name, Root: f})
		}
	}
	return out, api.OK
}

// conditions is what makes a condition, from within, where lets are what the lets ahead have become.
func (m *maker) conditions(lets map[string]int) func(c api.Cond) (int, api.Errno) {
	var put func(c api.Cond) (int, api.Errno)
	// row begins with what changes nothing, so that the first part is no other than the rest.
	row := func(f int, l []api.Cond, join func(a *arena.Arena, f, g int) (int, api.Errno)) (int, api.Errno) {
		for _, c := range l {
			g, e := put(c)
			if e != api.OK {
				return no, e
			}
			if f, e = join(m.arena, f, g); e != api.OK {
				return no, e
			}
		}
		return f, api.OK
	}
	put = func(c api.Cond) (int, api.Errno) {
		switch c.Kind {
		case api.CondTrue:
			return yes, api.OK
		case api.CondFalse:
			return no, api.OK
		case api.CondName:
			return lets[c.Name], api.OK
		case api.CondNot:
			f, e := put(c.Kids[0])
			if e != api.OK {
				return no, e
			}
			return dd.Not(m.arena, f)
		case api.CondAnd:
			return row(yes, c.Kids, dd.And)
		case api.CondOr:
			return row(no, c.Kids, dd.Or)
		}
		return m.test(c)
	}
	return put
}

func (m *maker) test(c api.Cond) (int, api.Errno) {
	a, _ := atom.Of(c) // a policy that was taken has no condition that Of refuses
	number := slices.IndexFunc(m.tests, func(b api.Atom) bool { return atom.Same(a, b) })
	if f, is := m.made[number]; is {
		return f, api.OK
	}
	at := space.Of(m.space, a)
	in, e := space.In(m.space[at], a)
	if e != api.OK {
		return no, e
	}
	f, e := dd.Set(m.arena, at, in)
	if e == api.OK {
		m.made[number] = f
	}
	return f, e
}

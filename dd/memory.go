package dd

import (
	"lychgate/api"
	"lychgate/arena"
)

// pair are two refs that an operation puts together.
type pair struct {
	f, g int
}

// memory is an operation's: the arena in which it works, and what it has worked out there.
type memory struct {
	*arena.Arena
	known   func(p pair) (int, bool) // what is known of two without a look at their kids
	results map[pair]int
	kids    map[int][]int // by nodes: Node would list them anew each time
}

func newMemory(a *arena.Arena) *memory {
	return &memory{Arena: a, results: map[pair]int{}, kids: map[int][]int{}}
}

// join is the result of an operation on two refs, that may not be there.
func join(a *arena.Arena, p pair, known func(p pair) (int, bool)) (int, api.Errno) {
	if !areThere(a, p.f, p.g) {
		return no, api.ErrArg
	}
	m := newMemory(a)
	m.known = known
	return m.result(p)
}

// result leaves nothing behind where there is no room for all of it.
func (m *memory) result(p pair) (int, api.Errno) {
	ahead := m.Len()
	f, e := m.put(p)
	if e != api.OK {
		m.Back(ahead)
	}
	return f, e
}

// put makes nodes of the result alone, in post-order: what it answers for a class is what the result leads to, or is the result.
func (m *memory) put(p pair) (int, api.Errno) {
	if f, is := m.known(p); is {
		return f, api.OK
	}
	if f, is := m.results[p]; is {
		return f, api.OK
	}
	level := min(m.Level(p.f), m.Level(p.g))
	kids, e := m.putKids(p, level)
	if e != api.OK {
		return no, e
	}
	f, e := m.Make(level, kids)
	if e == api.OK {
		m.results[p] = f
	}
	return f, e
}

// putKids is put of what two lead to, by each class of the least level that one of them asks.
func (m *memory) putKids(p pair, level int) ([]int, api.Errno) {
	ofF, ofG := m.kidsAt(p.f, level), m.kidsAt(p.g, level)
	out := make([]int, max(len(ofF), len(ofG)))
	for class := range out {
		below := p
		if ofF != nil {
			below.f = ofF[class]
		}
		if ofG != nil {
			below.g = ofG[class]
		}
		f, e := m.put(below)
		if e != api.OK {
			return nil, e
		}
		out[class] = f
	}
	return out, api.OK
}

// kidsAt are a ref's kids; none, if it does not ask that level.
func (m *memory) kidsAt(f, level int) []int {
	if m.Level(f) != level {
		return nil
	}
	return m.kidsOf(f)
}

func (m *memory) kidsOf(f int) []int {
	if l, is := m.kids[f]; is {
		return l
	}
	n, _ := m.Node(f)
	m.kids[f] = n.Kids
	return n.Kids
}

package verdict

import (
	"lychgate/api"
	"lychgate/atom"
)

// walk goes through a policy's items with what a request answers: which tests it passes, and which items ahead hold.
type walk struct {
	passed, held []bool
}

// through says of each item of a policy whether it holds of a request, both being right. Each item is asked once: names stand for lets ahead alone.
func through(p api.Policy, r api.Request) []bool {
	tests, _ := atom.All([]api.Policy{p})
	d := &reader{p.Items, tests}
	w := &walk{passed: passes(tests, r)}
	for _, x := range p.Items {
		w.held = append(w.held, w.holds(d.read(x.Cond)))
	}
	return w.held
}

// passes are the tests that a request passes; each is asked once, however often it is written, since texts may be long.
func passes(tests []api.Atom, r api.Request) []bool {
	var l []bool
	for _, a := range tests {
		is, _ := atom.Test(a, r)
		l = append(l, is)
	}
	return l
}

func (w *walk) holds(c condition) bool {
	switch x := c.(type) {
	case fixed:
		return x.is
	case named:
		return w.held[x.item]
	case not:
		return !w.holds(x.kid)
	case every:
		return !w.one(x.kids, false)
	case some:
		return w.one(x.kids, true)
	case test:
		return w.passed[x.number]
	}
	return false
}

// one: is there a condition of which it is so that it holds, or so that it does not?
func (w *walk) one(l []condition, so bool) bool {
	for _, c := range l {
		if w.holds(c) == so {
			return true
		}
	}
	return false
}

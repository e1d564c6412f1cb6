package check

import (
	"slices"

	"lychgate/api"
	"lychgate/atom"
	"lychgate/glob"
	"lychgate/syntax"
)

// walk goes through a policy: ahead are the items ahead of the one it is at, tests those that it came by, each once.
type walk struct {
	ahead []api.Item
	tests []api.Atom
}

// through goes through a whole policy, up to what is wrong first.
func through(p api.Policy) (*walk, error) {
	if !syntax.Right(p) {
		return nil, errTree
	}
	w := &walk{}
	for i, x := range p.Items {
		w.ahead = p.Items[:i]
		if err := w.item(x); err != nil {
			return nil, err
		}
	}
	return w, nil
}

func (w *walk) item(x api.Item) error {
	same := func(y api.Item) bool { return y.Name == x.Name }
	if slices.ContainsFunc(w.ahead, same) {
		return wrapped(errTwice, x.At)
	}
	return w.cond(x.Cond)
}

func (w *walk) cond(c api.Cond) error {
	if err := w.itself(c); err != nil {
		return wrapped(err, c.At)
	}
	for _, kid := range c.Kids {
		if err := w.cond(kid); err != nil {
			return err
		}
	}
	return nil
}

// itself: what is wrong with a condition, whatever its parts are?
func (w *walk) itself(c api.Cond) error {
	switch {
	case c.Kind == api.CondName && !w.known(c.Name):
		return errNone
	case c.Kind == api.CondPort && slices.ContainsFunc(c.Spans, noPorts):
		return errRange
	case (c.Kind == api.CondPath || c.Kind == api.CondHeader) && !isPattern(c.Text):
		return errGlob
	case (c.Kind == api.CondHeader || c.Kind == api.CondHas) && !isHeader(c.Name):
		return errHeader
	case c.Kind >= api.CondAddr && !w.fits(c):
		return errMany
	}
	return nil
}

// known: has a let ahead that name?
func (w *walk) known(name string) bool {
	return slices.ContainsFunc(w.ahead, func(x api.Item) bool {
		return x.Kind == api.ItemLet && x.Name == name
	})
}

func noPorts(s api.Span) bool { return s.Lo > s.Hi || s.Hi > api.MaxPort }

func isPattern(s string) bool {
	_, e, _ := glob.Parse(s)
	return e == api.OK
}

// isHeader asks layer 10, which has that form: a test whether there is such a header is right just with such a name.
func isHeader(name string) bool {
	return atom.Right(api.Atom{Kind: api.CondHas, Name: name})
}

// fits keeps the test of a condition: are there still not too many?
func (w *walk) fits(c api.Cond) bool {
	a, _ := atom.Of(c) // what could be wrong was asked ahead of this
	if !slices.ContainsFunc(w.tests, func(b api.Atom) bool { return atom.Same(a, b) }) {
		w.tests = append(w.tests, a)
	}
	return len(w.tests) <= api.MaxAtoms && len(w.headers()) <= api.MaxHeaders
}

// headers are the names that the tests have, each once, rising: those of headers have one, all others none.
func (w *walk) headers() []string {
	var names []string
	for _, a := range w.tests {
		if a.Name != "" {
			names = append(names, a.Name)
		}
	}
	slices.Sort(names)
	return slices.Compact(names)
}

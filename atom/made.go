package atom

import (
	"slices"
	"strings"

	"lychgate/addr"
	"lychgate/api"
	"lychgate/glob"
	"lychgate/span"
	"lychgate/syntax"
)

// written is a condition without parts, that a source can say.
type written struct {
	api.Cond
}

// made is the test that a condition says, which may still not be right; false, if it says none.
func made(c api.Cond) (api.Atom, bool) {
	if c.Kind < api.CondAddr || c.Kind > api.CondHas || !sayable(c) {
		return api.Atom{}, false
	}
	w := &written{c}
	makers := [...]func() (api.Atom, bool){
		api.CondAddr:   w.addrs,
		api.CondPort:   w.ports,
		api.CondMethod: w.methods,
		api.CondPath:   w.path,
		api.CondHeader: w.header,
		api.CondHas:    w.has,
	}
	a, is := makers[c.Kind]()
	a.Kind = c.Kind
	return a, is
}

// sayable: is there a source that says a condition?
func sayable(c api.Cond) bool {
	rule := api.Item{Kind: api.ItemAllow, Name: "a", Cond: c}
	return syntax.Right(api.Policy{Items: []api.Item{rule}})
}

func (w *written) addrs() (api.Atom, bool) {
	var spans []api.Span
	for _, p := range w.Prefixes {
		s, _ := addr.Range(p) // what a source can say has right prefixes alone
		spans = append(spans, s)
	}
	return ofSpans(spans)
}

func (w *written) ports() (api.Atom, bool) { return ofSpans(w.Spans) }

func ofSpans(l []api.Span) (api.Atom, bool) {
	set, e := span.Make(l)
	return api.Atom{Spans: set}, e == api.OK
}

// methods and names are taken as new texts, so that a test keeps nothing of the source.
func (w *written) methods() (api.Atom, bool) {
	var names []string
	for _, s := range w.Names {
		names = append(names, strings.Clone(s))
	}
	slices.Sort(names)
	return api.Atom{Names: slices.Compact(names)}, true
}

func (w *written) path() (api.Atom, bool) {
	pieces, e, _ := glob.Parse(w.Text)
	return api.Atom{Pieces: pieces}, e == api.OK
}

func (w *written) header() (api.Atom, bool) {
	a, is := w.path()
	a.Name = strings.Clone(w.Name)
	return a, is
}

func (w *written) has() (api.Atom, bool) {
	return api.Atom{Name: strings.Clone(w.Name)}, true
}

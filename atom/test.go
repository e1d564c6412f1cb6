package atom

import (
	"slices"

	"lychgate/api"
	"lychgate/glob"
	"lychgate/request"
	"lychgate/span"
)

// test is a test as it is handed in: it may not be right.
type test struct {
	api.Atom
}

// kind is what tells tests of one kind from those of others, of one test: both are its methods.
type kind struct {
	right  func() bool
	passes func(r api.Request) bool // of a test and a request that are right
}

// kind is a test's; false, if there is none.
func (t *test) kind() (kind, bool) {
	if t.Kind < api.CondAddr || t.Kind > api.CondHas {
		return kind{}, false
	}
	kinds := [...]kind{
		api.CondAddr:   {t.rightAddrs, t.hasAddr},
		api.CondPort:   {t.rightPorts, t.hasPort},
		api.CondMethod: {t.rightMethods, t.hasMethod},
		api.CondPath:   {t.rightPath, t.matchesPath},
		api.CondHeader: {t.rightHeader, t.matchesHeader},
		api.CondHas:    {t.rightHas, t.hasHeader},
	}
	return kinds[t.Kind], true
}

// hasOnly: are some parts of a test all that it has besides its kind?
func (t *test) hasOnly(parts api.Atom) bool {
	parts.Kind = t.Kind
	return Same(t.Atom, parts)
}

func (t *test) rightAddrs() bool {
	return t.hasOnly(api.Atom{Spans: t.Spans}) && isSet(t.Spans, api.MaxWord)
}

func (t *test) hasAddr(r api.Request) bool { return span.Has(t.Spans, r.Addr) }

func (t *test) rightPorts() bool {
	return t.hasOnly(api.Atom{Spans: t.Spans}) && isSet(t.Spans, api.MaxPort)
}

func (t *test) hasPort(r api.Request) bool { return span.Has(t.Spans, r.Port) }

func (t *test) rightMethods() bool {
	return t.hasOnly(api.Atom{Names: t.Names}) && areMethods(t.Names)
}

func (t *test) hasMethod(r api.Request) bool { return slices.Contains(t.Names, r.Method) }

func (t *test) rightPath() bool {
	return t.hasOnly(api.Atom{Pieces: t.Pieces}) && arePieces(t.Pieces)
}

func (t *test) matchesPath(r api.Request) bool { return t.matches(r.Path) }

func (t *test) rightHeader() bool {
	return t.hasOnly(api.Atom{Name: t.Name, Pieces: t.Pieces}) && isHeaderName(t.Name) && arePieces(t.Pieces)
}

func (t *test) matchesHeader(r api.Request) bool {
	value, is := request.Header(r, t.Name)
	return is && t.matches(value)
}

func (t *test) rightHas() bool {
	return t.hasOnly(api.Atom{Name: t.Name}) && isHeaderName(t.Name)
}

func (t *test) hasHeader(r api.Request) bool {
	_, is := request.Header(r, t.Name)
	return is
}

func (t *test) matches(text string) bool {
	is, _ := glob.Match(t.Pieces, text)
	return is
}

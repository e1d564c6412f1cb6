package space

import (
	"slices"
	"strings"

	"lychgate/api"
	"lychgate/atom"
	"lychgate/auto"
	"lychgate/request"
)

// texts are parted by a right automaton: a member's label is its class and 1, that of all other texts 0.
type texts struct {
	by api.Auto
}

// paths and headers are both parted as texts; of headers NONE is a member of the class 0, too.
type (
	paths   struct{ texts }
	headers struct {
		texts
		name string
	}
)

func readPaths(x api.Attr) (paths, bool) {
	t, is := readTexts(x, request.Paths())
	x.Auto = api.Auto{}
	return paths{t}, is && isBare(x)
}

func readHeaders(x api.Attr) (headers, bool) {
	p := headers{name: x.Name}
	is := false
	p.texts, is = readTexts(x, request.Values())
	x.Auto, x.Name = api.Auto{}, ""
	return p, is && isBare(x) && atom.Right(api.Atom{Kind: api.CondHas, Name: p.name})
}

// readTexts is false, if an attribute's automaton is not right, or has other labels than 0 to Size, or takes others for members than there are.
func readTexts(x api.Attr, members api.Auto) (texts, bool) {
	labels := slices.Repeat([]int{1}, x.Size+1)
	labels[0] = 0
	all, e := auto.Map(x.Auto, labels)
	return texts{x.Auto}, e == api.OK && sameAuto(all, members)
}

func sameAuto(a, b api.Auto) bool {
	return a.Bytes == b.Bytes && slices.Equal(a.Next, b.Next) && slices.Equal(a.Out, b.Out)
}

func (p paths) attr() api.Attr { return api.Attr{Kind: api.AttrPath, Auto: p.by} }

func (p headers) attr() api.Attr {
	return api.Attr{Kind: api.AttrHeader, Name: strings.Clone(p.name), Auto: p.by}
}

// classes has those of all states, since these are numbered as their least texts rise.
func (t texts) classes() []int {
	var out []int
	for _, label := range t.by.Out {
		if label > 0 {
			out = append(out, label-1)
		}
	}
	return out
}

func (p headers) classes() []int { return slices.Insert(p.texts.classes(), 0, 0) }

func (t texts) classOf(s string) int {
	label, _ := auto.Run(t.by, s)
	return label - 1
}

func (p paths) class(r api.Request) int { return p.classOf(r.Path) }

func (p headers) class(r api.Request) int {
	value, is := request.Header(r, p.name)
	if !is {
		return 0
	}
	return p.classOf(value)
}

func (t texts) least(class int) api.Sample {
	s, _, _ := auto.Shortest(t.by, class+1)
	return api.Sample{Text: s}
}

func (p headers) least(class int) api.Sample {
	if class == 0 {
		return api.Sample{None: true}
	}
	return p.texts.least(class)
}

// patternOf is what texts that pass a test match: a header that is there may have any value.
func patternOf(a api.Atom) []api.Piece {
	if a.Kind == api.CondHas {
		return []api.Piece{{Kind: api.PieceDeep}}
	}
	return a.Pieces
}

// passes does not ask for a join of both automata: that tells apart texts that are no members, too, and might have no room.
func (t texts) passes(a api.Atom, see func(class int, pass bool)) api.Errno {
	pattern, e := auto.Of(patternOf(a))
	if e != api.OK {
		return e
	}
	for _, s := range reached(t.by, pattern) {
		if label := t.by.Out[s.first]; label > 0 {
			see(label-1, pattern.Out[s.second] == 1)
		}
	}
	return api.OK
}

func (p headers) passes(a api.Atom, see func(class int, pass bool)) api.Errno {
	see(0, false)
	return p.texts.passes(a, see)
}

func (t texts) renamed(to []int) texts {
	labels := []int{0}
	for _, class := range to {
		labels = append(labels, class+1)
	}
	by, _ := auto.Map(t.by, labels)
	return texts{by}
}

func (p paths) fused(to []int) parting { return paths{p.renamed(to)} }

func (p headers) fused(to []int) parting { return headers{p.renamed(to), p.name} }

// states are one of each of two automata.
type states struct{ first, second int }

// reached are all pairs of states of two automata to which some text leads.
func reached(a, b api.Auto) []states {
	met := make([]bool, len(a.Out)*len(b.Out))
	met[0] = true
	out := []states{{}}
	columns := columnsOf(a, b)
	for i := 0; i < len(out); i++ {
		for _, c := range columns {
			to := states{step(a, out[i].first, c[0]), step(b, out[i].second, c[1])}
			if at := to.first*len(b.Out) + to.second; !met[at] {
				met[at] = true
				out = append(out, to)
			}
		}
	}
	return out
}

// columnsOf are the pairs of columns that bytes have, each once.
func columnsOf(a, b api.Auto) [][2]byte {
	looks := make([][2]byte, len(a.Bytes))
	for i := range looks {
		looks[i] = [2]byte{a.Bytes[i], b.Bytes[i]}
	}
	var out [][2]byte
	for i, n := range numbered(looks) {
		if n == len(out) {
			out = append(out, looks[i])
		}
	}
	return out
}

// step is the state that follows one by a byte of a column.
func step(a api.Auto, state int, column byte) int {
	width := len(a.Next) / len(a.Out)
	return a.Next[state*width+int(column)]
}

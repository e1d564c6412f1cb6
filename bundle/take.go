package bundle

import (
	"strings"

	"lychgate/api"
	"lychgate/codec"
)

const (
	checkBytes = 4   // at the end of each text
	byteValues = 256 // how many columns an automaton tells
)

// read is the image that a text says, right or not; false, if there is none.
func read(s string) (api.Image, bool) {
	if len(s) < checkBytes {
		return api.Image{}, false
	}
	s, check := s[:len(s)-checkBytes], s[len(s)-checkBytes:]
	rest, is := strings.CutPrefix(s, head)
	if !is || check != checkOf(s) {
		return api.Image{}, false
	}
	t := taking{codec.NewReader(rest)}
	var i api.Image
	for _, p := range imageParts() {
		p.take(t, &i)
	}
	return i, t.from.Done() == api.OK
}

// taking takes the parts of images up. What it takes may be wrong; that is asked of the whole.
type taking struct{ from *codec.Reader }

func (t taking) space(i *api.Image) { i.Space = list(t, t.from.Num(1), taking.attr) }

func (t taking) order(i *api.Image) { i.Order = t.numbers(1, len(i.Space)) }

func (t taking) nodes(i *api.Image) {
	i.Nodes = list(t, t.from.Num(2), func(t taking) api.Node {
		level := t.from.Num(1)
		return api.Node{Level: level, Kids: t.numbers(2, sizeAt(i, level))}
	})
}

func (t taking) root(i *api.Image) { i.Root = t.from.Num(2) }

func (t taking) attr() api.Attr {
	x := api.Attr{Kind: t.from.Num(1)}
	x.Size = t.from.Num(1) + 1
	for _, p := range attrParts(x.Kind) {
		p.take(t, &x)
	}
	return x
}

func (t taking) rows(x *api.Attr) { x.Rows = list(t, t.from.Num(4), taking.row) }

func (t taking) row() api.Row {
	var out api.Row
	out.Prefix.Addr = t.from.Num(4)
	out.Prefix.Bits = t.from.Num(1)
	out.Label = t.from.Num(1)
	return out
}

func (t taking) cuts(x *api.Attr) { x.Cuts = list(t, t.from.Num(4), taking.cut) }

func (t taking) cut() api.Cut {
	from := t.from.Num(2)
	return api.Cut{From: from, Class: t.from.Num(1)}
}

func (t taking) methods(x *api.Attr) { x.Methods = list(t, t.from.Num(4), taking.method) }

func (t taking) method() api.Method {
	name := t.from.Text(api.MaxMethod)
	return api.Method{Name: name, Class: t.from.Num(1)}
}

func (t taking) name(x *api.Attr) { x.Name = t.from.Text(api.MaxName) }

func (t taking) rest(x *api.Attr) { x.Rest = t.from.Num(1) }

func (t taking) auto(x *api.Attr) {
	x.Auto.Bytes = t.from.Raw(byteValues)
	states := t.from.Num(1) + 1
	x.Auto.Next = t.numbers(1, states*columns(x.Auto.Bytes))
	x.Auto.Out = t.numbers(2, states)
}

// numbers are so many, each by so many bytes.
func (t taking) numbers(size, many int) []int {
	return list(t, many, func(t taking) int { return t.from.Num(size) })
}

// list ends where something is wrong, so that a text that says to have more than it has is not gone on with.
func list[T any](t taking, many int, one func(t taking) T) []T {
	var out []T
	for range many {
		x := one(t)
		if e := t.from.Done(); e != api.OK && e != api.ErrCodecMore {
			return nil
		}
		out = append(out, x)
	}
	return out
}

// columns are as many as an automaton's Bytes have.
func columns(bytes string) int {
	most := 0
	for k := range len(bytes) {
		most = max(most, int(bytes[k]))
	}
	return most + 1
}

// sizeAt is how many classes a level's attribute has; 0, if there is none.
func sizeAt(i *api.Image, level int) int {
	if level >= len(i.Order) || i.Order[level] >= len(i.Space) {
		return 0
	}
	return i.Space[i.Order[level]].Size
}

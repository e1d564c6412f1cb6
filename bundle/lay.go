package bundle

import (
	"math"

	"lychgate/api"
	"lychgate/codec"
)

// head is what each text begins with.
const head = "LYCH\x01"

// written is the text of a right image.
func written(i api.Image) string {
	l := laying{codec.NewWriter(math.MaxInt)}
	l.to.Raw(head)
	for _, p := range imageParts() {
		p.lay(l, i)
	}
	s, _ := l.to.Done() // a right image has no number that does not fit, and no text that is too long
	return s + checkOf(s)
}

// checkOf is the check of bytes, the lowest byte first: so the bits of both are those of one row, in which what is turned within 32 is seen.
func checkOf(s string) string {
	n := codec.Sum(s)
	return string([]byte{byte(n), byte(n >> 8), byte(n >> 16), byte(n >> 24)})
}

// laying lays the parts of right images down.
type laying struct{ to *codec.Writer }

func (l laying) space(i api.Image) {
	l.to.Num(1, len(i.Space))
	for _, x := range i.Space {
		l.to.Num(1, x.Kind)
		l.to.Num(1, x.Size-1)
		for _, p := range attrParts(x.Kind) {
			p.lay(l, x)
		}
	}
}

func (l laying) order(i api.Image) { l.numbers(1, i.Order) }

func (l laying) nodes(i api.Image) {
	l.to.Num(2, len(i.Nodes))
	for _, n := range i.Nodes {
		l.to.Num(1, n.Level)
		l.numbers(2, n.Kids)
	}
}

func (l laying) root(i api.Image) { l.to.Num(2, i.Root) }

func (l laying) rows(x api.Attr) {
	l.to.Num(4, len(x.Rows))
	for _, row := range x.Rows {
		l.to.Num(4, row.Prefix.Addr)
		l.to.Num(1, row.Prefix.Bits)
		l.to.Num(1, row.Label)
	}
}

func (l laying) cuts(x api.Attr) {
	l.to.Num(4, len(x.Cuts))
	for _, cut := range x.Cuts {
		l.to.Num(2, cut.From)
		l.to.Num(1, cut.Class)
	}
}

func (l laying) methods(x api.Attr) {
	l.to.Num(4, len(x.Methods))
	for _, m := range x.Methods {
		l.to.Text(m.Name)
		l.to.Num(1, m.Class)
	}
}

func (l laying) name(x api.Attr) { l.to.Text(x.Name) }

func (l laying) rest(x api.Attr) { l.to.Num(1, x.Rest) }

func (l laying) auto(x api.Attr) {
	l.to.Raw(x.Auto.Bytes)
	l.to.Num(1, len(x.Auto.Out)-1)
	l.numbers(1, x.Auto.Next)
	l.numbers(2, x.Auto.Out)
}

// numbers lays each one down by so many bytes, without how many there are.
func (l laying) numbers(size int, list []int) {
	for _, n := range list {
		l.to.Num(size, n)
	}
}

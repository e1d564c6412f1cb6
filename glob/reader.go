package glob

import (
	"strings"

	"lychgate/api"
	"lychgate/span"
)

// reader goes through a pattern's text. It goes over no byte that may not stand; so where it gives up, it stands at the fault.
type reader struct {
	text string
	at   int
}

// skip goes over s, if that comes next.
func (r *reader) skip(s string) bool {
	if !strings.HasPrefix(r.text[r.at:], s) {
		return false
	}
	r.at += len(s)
	return true
}

// take goes over the next byte, if it is one from least to the last one that a pattern may name.
func (r *reader) take(least int) (int, bool) {
	if r.at == len(r.text) {
		return 0, false
	}
	b := int(r.text[r.at])
	if b < least || b > last {
		return 0, false
	}
	r.at++
	return b, true
}

func (r *reader) piece() (api.Piece, bool) {
	switch {
	case r.skip("**"):
		return api.Piece{Kind: api.PieceDeep}, true
	case r.skip("*"):
		return api.Piece{Kind: api.PieceStar}, true
	case r.skip("?"):
		return api.Piece{Kind: api.PieceAny}, true
	case r.skip("["):
		return r.set()
	}
	r.skip(`\`)
	b, ok := r.take(first)
	return api.Piece{Kind: api.PieceByte, B: b}, ok
}

// set reads a set, whose bracket has been gone over.
func (r *reader) set() (api.Piece, bool) {
	not := r.skip("!")
	var items []api.Span
	for len(items) == 0 || !r.skip("]") {
		item, ok := r.item()
		if !ok {
			return api.Piece{}, false
		}
		items = append(items, item)
	}
	set, e := span.Make(items)
	return api.Piece{Kind: api.PieceSet, Not: not, Set: set}, e == api.OK
}

// item reads a byte of a set, or a range of them.
func (r *reader) item() (api.Span, bool) {
	lo, ok := r.member(first)
	hi := lo
	if ok && r.skip("-") {
		hi, ok = r.member(lo)
	}
	return api.Span{Lo: lo, Hi: hi}, ok
}

// member reads a byte of a set that is at least least, escaped or not.
func (r *reader) member(least int) (int, bool) {
	if !r.skip(`\`) && r.sees("]-") {
		return 0, false
	}
	return r.take(least)
}

// sees: is the next byte one of some?
func (r *reader) sees(some string) bool {
	return r.at < len(r.text) && strings.IndexByte(some, r.text[r.at]) >= 0
}

package auto

import (
	"lychgate/api"
	"lychgate/glob"
)

// places are a set of places of a pattern: a state, till the least ones are found.
type places struct {
	has [api.MaxPieces + 1]bool
}

// A taking is of a byte: which pieces of a pattern take it (one that takes many, as one of them).
type taking struct {
	by [api.MaxPieces]bool
}

// takings has the taking of each byte.
func takings(l []api.Piece) []taking {
	out := make([]taking, byteCount)
	for b := range out {
		one := string([]byte{byte(b)})
		for i := range l {
			out[b].by[i], _ = glob.Match([]api.Piece{l[i]}, one)
		}
	}
	return out
}

// many: does a piece take any number of bytes?
func many(p api.Piece) bool {
	return p.Kind == api.PieceStar || p.Kind == api.PieceDeep
}

// closed has the places behind pieces that may take nothing, too.
func closed(l []api.Piece, at places) places {
	for i, p := range l {
		if at.has[i] && many(p) {
			at.has[i+1] = true
		}
	}
	return at
}

// beginning are the places ahead of all bytes.
func beginning(l []api.Piece) places {
	var at places
	at.has[0] = true
	return closed(l, at)
}

// after are the places to which some lead by a byte of that taking.
func after(l []api.Piece, at places, t taking) places {
	var out places
	for i, p := range l {
		switch {
		case !at.has[i] || !t.by[i]:
		case many(p):
			out.has[i] = true
		default:
			out.has[i+1] = true
		}
	}
	return closed(l, out)
}

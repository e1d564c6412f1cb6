package glob

import "lychgate/api"

// places are marks between pieces: how many of them a beginning of the text may have gone through. Marks, and not one try behind the other, since those of some patterns are more than can be gone through.
type places [api.MaxPieces + 1]bool

// closed marks the places behind pieces that may take nothing, too.
func closed(l []api.Piece, at places) places {
	for i, p := range l {
		if at[i] && many(p) {
			at[i+1] = true
		}
	}
	return at
}

// after are the places that are come to by one more byte.
func after(l []api.Piece, takes []func(p api.Piece, b int) bool, at places, b int) places {
	var next places
	for i, p := range l {
		if !at[i] || !takes[p.Kind](p, b) {
			continue
		}
		if many(p) {
			next[i] = true
		} else {
			next[i+1] = true
		}
	}
	return closed(l, next)
}

package order

import (
	"iter"
	"slices"
)

// best is the diagram with a level put in at the place where there are the fewest nodes.
func (d diagram) best(level, most int) diagram {
	// Of more than most it is all the same how many there are.
	out, least := d, min(d.nodes(), most+1)
	// Where there are not fewer nodes the level is never put in: so there they need not be counted.
	for other := range d.others(level, least-1) {
		if n := other.nodes(); n < least {
			out, least = other, n
		}
	}
	return out
}

// others are the diagrams with a level put in at each other place, from the first place on. Of those with more than most nodes some are left out.
func (d diagram) others(level, most int) iter.Seq[diagram] {
	return func(yield func(diagram) bool) {
		at := d.placeOf(level)
		ahead := slices.Collect(d.moves(at, -1, most))
		for _, other := range slices.Backward(ahead) {
			if !yield(other) {
				return
			}
		}
		for other := range d.moves(at, 1, most) {
			if !yield(other) {
				return
			}
		}
	}
}

// moves are the diagrams with the level of a place moved on, a place at a time: ahead by -1, behind by 1. They end where lift gives up: the same levels stand first, as far as there, wherever further on the level is.
func (d diagram) moves(at, by, most int) iter.Seq[diagram] {
	return func(yield func(diagram) bool) {
		now, fits := d, true
		for next := at + by; next >= 0 && next < len(d.layers); next += by {
			// A level goes behind the next one when that is lifted.
			now, fits = now.lift(max(next, next-by), min(next, next-by), most)
			if !fits || !yield(now) {
				return
			}
		}
	}
}

package span

import "lychgate/api"

// end is a number at which a set begins to have numbers, or no longer has them:
// a right list has no two ends at one number, so the two kinds take turns and need no mark.
type end struct {
	at, set int
}

// giver gives ends one by one, by rising numbers, and false when none is left.
type giver func() (end, bool)

// endsOf gives the ends of one set, which is told by its place.
func endsOf(a []api.Span, set int) giver {
	given := 0
	return func() (end, bool) {
		if given == 2*len(a) {
			return end{}, false
		}
		at := a[given/2].Lo
		if given%2 == 1 {
			at = a[given/2].Hi + 1
		}
		given++
		return end{at, set}, true
	}
}

// endsOfAll gives the ends of sets whose places begin with first.
// They are merged by halves, so that an end costs the depth of the halving, not the number of the sets.
func endsOfAll(l [][]api.Span, first int) giver {
	switch len(l) {
	case 0:
		return endsOf(nil, first)
	case 1:
		return endsOf(l[0], first)
	}
	half := len(l) / 2
	return merged(endsOfAll(l[:half], first), endsOfAll(l[half:], first+half))
}

func merged(f, g giver) giver {
	a, aMore := f()
	b, bMore := g()
	return func() (end, bool) {
		if aMore && (!bMore || a.at <= b.at) {
			e := a
			a, aMore = f()
			return e, true
		}
		e, more := b, bMore
		b, bMore = g()
		return e, more
	}
}

// piece is a span between two ends; in marks the sets that have its numbers, till the next piece is given.
type piece struct {
	span api.Span
	in   []bool
}

// pieces gives the spans into which the ends of some sets cut all numbers, one by one.
// At an end its set changes, and no set has two there: so no two pieces side by side are in the same sets.
func pieces(l [][]api.Span) func() (piece, bool) {
	next := endsOfAll(l, 0)
	in := make([]bool, len(l))
	e, more := next()
	lo := 0
	return func() (piece, bool) {
		if lo > api.MaxWord {
			return piece{}, false
		}
		for more && e.at == lo {
			in[e.set] = !in[e.set]
			e, more = next()
		}
		hi := api.MaxWord
		if more {
			hi = e.at - 1
		}
		p := piece{api.Span{Lo: lo, Hi: hi}, in}
		lo = hi + 1
		return p, true
	}
}

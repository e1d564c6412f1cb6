package order

import "slices"

// lift takes the level of a place out and puts it in at a place that is not behind it.
//
// It gives up, and answers false, where more than most functions, false and true left out, may be left behind the lifted level: each is a node of its own in this order, and in every other one whose first levels, as far as there, are the same in whatever order. So it never goes through many more than most of them; and none of them has, at a level, more rows than the arena that was read had nodes. That keeps the places of rows far below 2^31.
func (d diagram) lift(from, to, most int) (diagram, bool) {
	if from == to {
		return d, true
	}
	l := newLifting(d.layers[to : from+1])
	first := layer{level: d.layers[from].level}
	for at := range d.layers[to].rows {
		first.rows = append(first.rows, l.split(0, int32(at)))
		if len(l.made[0].rows)-firstRow > most {
			return diagram{}, false
		}
	}
	out := diagram{roots: d.roots, layers: slices.Clone(d.layers)}
	out.layers[to] = first
	for i, t := range l.made {
		out.layers[to+1+i] = layer{l.old[i].level, t.rows}
	}
	return out, true
}

// lifting takes the last one of some layers ahead of all others.
type lifting struct {
	old   []layer
	known [][][]run // what split has worked out, by layers and rows
	made  []*table  // by layers: what is left of their rows when the lifted level's class is known
}

func newLifting(old []layer) *lifting {
	l := &lifting{old: old}
	for _, x := range old[:len(old)-1] {
		l.known = append(l.known, make([][]run, len(x.rows)))
		l.made = append(l.made, newTable(x.rows[no], x.rows[yes]))
	}
	return l
}

// split is a row of a layer by the classes of the lifted level: it leads to made rows of the same layer. One of the lifted level itself leads to the layer behind it, as it did.
func (l *lifting) split(i int, at int32) []run {
	row := l.old[i].rows[at]
	if i == len(l.made) {
		return row
	}
	if l.known[i][at] == nil {
		below := make([][]run, len(row))
		for k, r := range row {
			below[k] = l.split(i+1, r.to)
		}
		l.known[i][at] = turn(row, below, l.made[i])
	}
	return l.known[i][at]
}

// turn lets two levels change places: below are, run by run of row, rows of another level, and are used up; the answer is a row of that one, which leads to rows of row's level.
func turn(row []run, below [][]run, made *table) []run {
	var out []run
	column := make([]run, 0, len(row))
	size := below[0][len(below[0])-1].end
	for end := int32(0); end < size; {
		over := end
		end, column = size, column[:0]
		for k, r := range row {
			rest := below[k]
			if rest[0].end == over {
				rest = rest[1:]
				below[k] = rest
			}
			end = min(end, rest[0].end)
			column = join(column, r.end, rest[0].to)
		}
		out = join(out, end, made.place(column))
	}
	return out
}

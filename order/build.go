package order

import (
	"lychgate/api"
	"lychgate/arena"
)

// building makes nodes of a diagram in an arena.
type building struct {
	*arena.Arena
	layers []layer
	sizes  []int
	made   [][]int // by layers and rows: the ref, 0 if there is none yet
}

// build is an arena with the diagram's nodes alone, in post-order, and the roots there.
func (d diagram) build(most int) (*arena.Arena, []int, api.Errno) {
	sizes := d.sizes()
	a, e := arena.New(sizes, most)
	if e != api.OK {
		return nil, nil, e
	}
	b := building{Arena: a, layers: d.layers, sizes: sizes}
	for _, l := range d.layers {
		b.made = append(b.made, make([]int, len(l.rows)))
	}
	roots := make([]int, len(d.roots))
	for i, at := range d.roots {
		if roots[i], e = b.put(0, at); e != api.OK {
			return nil, nil, e
		}
	}
	return a, roots, api.OK
}

// put is the ref of a layer's row.
func (b *building) put(level int, at int32) (int, api.Errno) {
	if at < firstRow {
		return int(at), api.OK
	}
	if f := b.made[level][at]; f != 0 {
		return f, api.OK
	}
	kids, e := b.putKids(level, b.layers[level].rows[at])
	if e != api.OK {
		return 0, e
	}
	// Where all kids are the same, the answer is that one.
	f, e := b.Make(level, kids)
	b.made[level][at] = f
	return f, e
}

func (b *building) putKids(level int, row []run) ([]int, api.Errno) {
	out := make([]int, 0, b.sizes[level])
	for _, r := range row {
		f, e := b.put(level+1, r.to)
		if e != api.OK {
			return nil, e
		}
		for len(out) < int(r.end) {
			out = append(out, f)
		}
	}
	return out, api.OK
}

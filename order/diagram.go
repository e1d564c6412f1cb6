package order

import (
	"slices"

	"lychgate/arena"
)

// Of each layer the rows at the places 0 and 1 are false and true, as an arena's refs are; so what leads there leads to an end.
const (
	no       = 0
	yes      = 1
	firstRow = 2
)

// layer has what may be left of the roots when the classes of all levels ahead of it are known: each function once, as a row that leads, by the level's classes, to rows of the next layer. A function that the level does not change has one run.
type layer struct {
	level int // of the arena that was read
	rows  [][]run
}

// diagram has roots in an order. Layers are not written into: diagrams share them.
type diagram struct {
	roots  []int32 // rows of the first layer
	layers []layer
}

// nodes is how many the roots have in this order: one for each function that its layer's level changes.
func (d diagram) nodes() int {
	out := 0
	for _, l := range d.layers {
		for _, row := range l.rows {
			if len(row) > 1 {
				out++
			}
		}
	}
	return out
}

func (d diagram) order() []int {
	out := make([]int, len(d.layers))
	for place, l := range d.layers {
		out[place] = l.level
	}
	return out
}

func (d diagram) placeOf(level int) int {
	return slices.IndexFunc(d.layers, func(l layer) bool { return l.level == level })
}

// sizes are how many classes the layers' levels have.
func (d diagram) sizes() []int {
	out := make([]int, len(d.layers))
	for place, l := range d.layers {
		out[place] = int(l.rows[no][0].end)
	}
	return out
}

// refs are some of an arena, each once, false and true first: unlike ones are unlike functions.
type refs struct {
	list   []int
	places map[int]int32
}

func newRefs() *refs {
	return &refs{list: []int{no, yes}, places: map[int]int32{no: no, yes: yes}}
}

func (r *refs) place(f int) int32 {
	if at, is := r.places[f]; is {
		return at
	}
	at := int32(len(r.list))
	r.places[f] = at
	r.list = append(r.list, f)
	return at
}

// read is what some roots of an arena say, in the arena's own order.
func read(a *arena.Arena, roots []int) diagram {
	var d diagram
	now := newRefs()
	for _, f := range roots {
		d.roots = append(d.roots, now.place(f))
	}
	for level, size := range a.Sizes() {
		next := newRefs()
		rows := make([][]run, len(now.list))
		for at, f := range now.list {
			rows[at] = readRow(a, f, level, size, next)
		}
		d.layers = append(d.layers, layer{level, rows})
		now = next
	}
	return d
}

// readRow is where a ref leads by the classes of a level that is not above its own.
func readRow(a *arena.Arena, f, level, size int, next *refs) []run {
	if a.Level(f) != level {
		return []run{{int32(size), next.place(f)}}
	}
	n, _ := a.Node(f)
	var row []run
	for class, kid := range n.Kids {
		row = join(row, int32(class+1), next.place(kid))
	}
	return row
}

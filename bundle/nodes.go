package bundle

import (
	"slices"

	"lychgate/api"
	"lychgate/arena"
	"lychgate/dd"
)

// firstNode is the least number of a node, by layer 14.
const firstNode = 2

// laid is an arena that has an image's nodes at their numbers; false, if the image is not right. Whether its space is right is not asked.
func laid(i api.Image) (*arena.Arena, bool) {
	if !isOrder(i.Order, len(i.Space)) {
		return nil, false
	}
	a, e := arena.New(sizesBy(i.Space, i.Order), len(i.Nodes))
	if e != api.OK || !putIn(a, i.Nodes) {
		return nil, false
	}
	l, e := dd.Nodes(a, []int{i.Root})
	return a, e == api.OK && slices.Equal(l, upFrom(firstNode, len(i.Nodes)))
}

// isOrder: does an order have each of so many places once?
func isOrder(order []int, places int) bool {
	return slices.Equal(slices.Sorted(slices.Values(order)), upFrom(0, places))
}

// upFrom are so many numbers, from one on.
func upFrom(first, many int) []int {
	out := make([]int, many)
	for i := range out {
		out[i] = first + i
	}
	return out
}

// sizesBy are the sizes of the levels, of an order that may be.
func sizesBy(x []api.Attr, order []int) []int {
	out := make([]int, len(order))
	for level, at := range order {
		out[level] = x[at].Size
	}
	return out
}

// putIn: may all nodes be made? What is there already, or leads to one thing alone, is no new node; then the arena has fewer of them.
func putIn(a *arena.Arena, l []api.Node) bool {
	for _, n := range l {
		if _, e := a.Make(n.Level, n.Kids); e != api.OK {
			return false
		}
	}
	return true
}

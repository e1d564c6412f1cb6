package fuse

import (
	"slices"
	"strings"

	"lychgate/api"
	"lychgate/arena"
)

// firstNode is the first node's ref, by layer 14: 0 and 1 are false and true.
const firstNode = 2

// alike is, of each class of a level, the least one that none of some roots tells from it, in an arena that has just these nodes.
func alike(a *arena.Arena, nodes []api.Node, roots []int, level int) ([]int, api.Errno) {
	left := make([][]int, a.Sizes()[level]) // by classes: what each of them leaves of the roots
	for class := range left {
		to, e := restricted(a, nodes, level, class)
		if e != api.OK {
			return nil, e
		}
		left[class] = picked(to, roots)
	}
	return leasts(left), api.OK
}

// restricted is, by refs, what becomes of each where a level's class is known. It makes just what layer 15's Restrict of all roots makes: the classes that lead from a root to a node lead from what becomes of the root to what becomes of the node. But a node to which many roots lead is gone through once.
func restricted(a *arena.Arena, nodes []api.Node, level, class int) ([]int, api.Errno) {
	to := make([]int, firstNode+len(nodes))
	for f := range to {
		to[f] = f
	}
	for i, n := range nodes {
		switch {
		case n.Level == level:
			to[firstNode+i] = n.Kids[class]
		case n.Level < level:
			// What it leads to stands ahead of it.
			f, e := a.Make(n.Level, picked(to, n.Kids))
			if e != api.OK {
				return nil, e
			}
			to[firstNode+i] = f
		}
	}
	return to, api.OK
}

// leasts puts together lists that are the same: of each one the place of the first that is.
func leasts[T comparable](l [][]T) []int {
	out := make([]int, len(l))
	for i, x := range l {
		out[i] = slices.IndexFunc(l, func(y []T) bool { return slices.Equal(x, y) })
	}
	return out
}

// picked are the elements at some places.
func picked[T any](l []T, places []int) []T {
	out := make([]T, len(places))
	for i, at := range places {
		out[i] = l[at]
	}
	return out
}

// narrowed are nodes without the classes that do not stay, by levels. These led to what a lower class leads to, too: so there are as many nodes, and they stand in post-order as they did.
func narrowed(nodes []api.Node, stay [][]int) []api.Node {
	out := make([]api.Node, len(nodes))
	for i, n := range nodes {
		out[i] = api.Node{Level: n.Level, Kids: picked(n.Kids, stay[n.Level])}
	}
	return out
}

func copied(l []api.Ruled) []api.Ruled {
	out := slices.Clone(l)
	for i, x := range out {
		out[i].Name = strings.Clone(x.Name)
	}
	return out
}

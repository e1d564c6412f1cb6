package pass

import (
	"slices"

	"lychgate/api"
	"lychgate/lower"
)

// copied is a right program again, in new memory. How many nodes passes may have says nothing of it: there is room for each right one.
func copied(p api.Program) (api.Program, api.Errno) {
	a, _, e := lower.Open(p, api.MaxNodes)
	if e != api.OK {
		return api.Program{}, e
	}
	return lower.Close(p.Space, p.Order, a, p.Rules)
}

// picked are the elements at some places.
func picked(l, places []int) []int {
	out := make([]int, len(places))
	for i, at := range places {
		out[i] = l[at]
	}
	return out
}

// rooted are rules with other roots.
func rooted(l []api.Ruled, roots []int) []api.Ruled {
	out := slices.Clone(l)
	for i, f := range roots {
		out[i].Root = f
	}
	return out
}

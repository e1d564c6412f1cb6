package prune

import "lychgate/api"

func areOfOnePolicy(x, y api.Ruled) bool { return x.Policy == y.Policy }

func areOfOneKind(x, y api.Ruled) bool { return x.Policy == y.Policy && x.Effect == y.Effect }

// rows cuts rules into neighbours that belong to the first one of them. A row has no spare room: that would be the next row, of a list that was handed in.
func rows(l []api.Ruled, belong func(x, y api.Ruled) bool) [][]api.Ruled {
	var out [][]api.Ruled
	from := 0
	for i := range l {
		if !belong(l[from], l[i]) {
			out = append(out, l[from:i:i])
			from = i
		}
	}
	if from < len(l) {
		out = append(out, l[from:len(l):len(l)])
	}
	return out
}

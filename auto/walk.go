package auto

import (
	"slices"

	"lychgate/api"
)

// A pair is a state, or a column, of each of two automata.
type pair struct{ a, b int }

// numbered gives each of some things the number of its look. Looks are numbered as they first occur, so the numbers hang on the things alone; first has of each number the first thing.
func numbered[L comparable](things int, look func(int) L) (number, first []int) {
	known := map[L]int{}
	number = make([]int, things)
	for i := range things {
		l := look(i)
		n, met := known[l]
		if !met {
			n = len(first)
			known[l] = n
			first = append(first, i)
		}
		number[i] = n
	}
	return number, first
}

// explored are the states to which a first one leads, breadth first, and the numbers of those that follow each, by rising columns; false, if there are more than an automaton may have.
func explored[S comparable](start S, columns int, follow func(S, int) S) ([]S, []int, bool) {
	known := map[S]int{start: 0}
	states := []S{start}
	var next []int
	for i := 0; i < len(states); i++ {
		for c := range columns {
			to := follow(states[i], c)
			n, met := known[to]
			if !met {
				n = len(states)
				known[to] = n
				states = append(states, to)
			}
			if len(states) > api.MaxStates {
				return nil, nil, false
			}
			next = append(next, n)
		}
	}
	return states, next, true
}

// labelPairs has the labels of each of some pairs of states.
func labelPairs(a, b api.Auto, states []pair) [][2]int {
	out := make([][2]int, len(states))
	for i, s := range states {
		out[i] = [2]int{a.Out[s.a], b.Out[s.b]}
	}
	return out
}

// risingOnce has each of some pairs once, rising.
func risingOnce(l [][2]int) [][2]int {
	out := slices.Clone(l)
	slices.SortFunc(out, func(x, y [2]int) int { return slices.Compare(x[:], y[:]) })
	return slices.Compact(out)
}

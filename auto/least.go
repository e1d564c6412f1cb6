package auto

import "lychgate/api"

// leads is where a column leads from each state.
type leads struct {
	to [api.MaxStates]byte
}

// oneForm is the right automaton with the same label for each text; a may be.
func oneForm(a api.Auto) (api.Auto, api.Errno) {
	a = reached(a)
	part, ok := apart(a)
	if !ok {
		return api.Auto{}, api.ErrNodeLimit
	}
	return narrowed(merged(a, part)), api.OK
}

// reached has the states that texts lead to alone, numbered as they are met breadth first, and the columns that bytes have alone, numbered as they first occur.
func reached(a api.Auto) api.Auto {
	column, first := numbered(byteCount, func(b int) byte { return a.Bytes[b] })
	met := make([]bool, len(a.Out))
	met[0] = true
	number := make([]int, len(a.Out))
	states := []int{0}
	next := make([]int, 0, len(a.Next))
	var out []int
	for i := 0; i < len(states); i++ {
		for _, b := range first {
			to := step(a, states[i], b)
			if !met[to] {
				met[to] = true
				number[to] = len(states)
				states = append(states, to)
			}
			next = append(next, number[to])
		}
		out = append(out, a.Out[states[i]])
	}
	return api.Auto{Bytes: byteColumns(column), Next: next, Out: out}
}

// merged has one state in the place of each part of states. Of states met breadth first the first ones of the parts are in that order, too.
func merged(a api.Auto, part []int) api.Auto {
	state, first := numbered(len(part), func(s int) int { return part[s] })
	w := width(a)
	next := make([]int, 0, len(first)*w)
	var out []int
	for _, s := range first {
		for _, to := range a.Next[s*w : (s+1)*w] {
			next = append(next, state[to])
		}
		out = append(out, a.Out[s])
	}
	return api.Auto{Bytes: a.Bytes, Next: next, Out: out}
}

// narrowed has one column in the place of those that lead from each state to the same one.
func narrowed(a api.Auto) api.Auto {
	w := width(a)
	column, first := numbered(w, func(c int) leads {
		var l leads
		for s := range a.Out {
			l.to[s] = byte(a.Next[s*w+c])
		}
		return l
	})
	of := make([]int, byteCount)
	for b := range of {
		of[b] = column[a.Bytes[b]]
	}
	next := make([]int, 0, len(first)*len(a.Out))
	for s := range a.Out {
		for _, c := range first {
			next = append(next, a.Next[s*w+c])
		}
	}
	return api.Auto{Bytes: byteColumns(of), Next: next, Out: a.Out}
}

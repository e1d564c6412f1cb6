package lower

import (
	"lychgate/api"
	"lychgate/glob"
)

// mostBound is told in the place of all greater numbers: no arena has so many nodes.
const mostBound = 1 << 30

// times is a product of numbers up to mostBound, or mostBound, if that is less.
func times(n, m int) int { return min(n*m, mostBound) }

// tally is what stands in all conditions of a policy, as often as it stands there.
type tally struct {
	prefixes, spans, methods, conds, rules int
	weights                                map[string]int // the product of all patterns of a header, by its name; of the path by no name
}

func counted(p api.Policy) tally {
	t := tally{weights: map[string]int{}}
	var through func(c api.Cond)
	through = func(c api.Cond) {
		t.see(c)
		for _, kid := range c.Kids {
			through(kid)
		}
	}
	for _, x := range p.Items {
		if isEffect(x.Kind) {
			t.rules++
		}
		through(x.Cond)
	}
	return t
}

// see counts a condition without its parts. What its kind has not is empty, so it need not be told what it has.
func (t *tally) see(c api.Cond) {
	t.conds++
	t.prefixes += len(c.Prefixes)
	t.spans += len(c.Spans)
	t.methods += len(c.Names)
	if c.Kind == api.CondPath || c.Kind == api.CondHeader {
		t.weights[c.Name] = times(max(t.weights[c.Name], 1), weight(c.Text))
	}
}

// weight is that of a pattern that may be.
func weight(text string) int {
	l, _, _ := glob.Parse(text)
	for i, p := range l {
		if (p.Kind == api.PieceStar || p.Kind == api.PieceDeep) && i < len(l)-1 {
			return 1 << min(len(l)+1, 30)
		}
	}
	return len(l) + 2
}

// numbers are those of the address, the port, the method, the path and the headers of these names.
func (t tally) numbers(headers []string) []int {
	out := []int{2*t.prefixes + 1, 2*t.spans + 1, t.methods + 1, max(1, 16*t.weights[""])}
	for _, name := range headers {
		if w, is := t.weights[name]; is {
			out = append(out, 1+4*w)
		} else {
			out = append(out, 2)
		}
	}
	return out
}

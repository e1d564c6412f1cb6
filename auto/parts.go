package auto

import (
	"cmp"
	"slices"

	"lychgate/api"
)

// A room is where the states of a part stand in the list of all: from first on, ahead of end; the marked ones stand in front.
type room struct{ first, marked, end int }

// parts are states put into parts, that are split further and further.
type parts struct {
	list  []int // the states, part by part
	place []int // of each state in list
	of    []int // the part of each state
	rooms []room
}

// apart has the part of each state: of two it is the same just if they have the same label for each text that follows; false, if there are more parts than an automaton may have states.
func apart(a api.Auto) ([]int, bool) {
	p := byLabel(a.Out)
	ahead := backwards(a)
	for k := 0; k < len(p.rooms) && !p.settled(); k++ {
		// A part may be split by what leads to itself: what it had at first counts for all columns.
		states := slices.Clone(p.list[p.rooms[k].first:p.rooms[k].end])
		for c := range width(a) {
			p.split(ahead, states, c)
		}
	}
	return p.of, len(p.rooms) <= api.MaxStates
}

// settled: is it told already, since each state stands alone, or since there are too many parts?
func (p *parts) settled() bool {
	return len(p.rooms) == len(p.list) || len(p.rooms) > api.MaxStates
}

// byLabel puts states with the same label into one part.
func byLabel(out []int) *parts {
	p := &parts{list: make([]int, len(out)), place: make([]int, len(out)), of: make([]int, len(out))}
	for s := range out {
		p.list[s] = s
	}
	slices.SortFunc(p.list, func(s, t int) int {
		return cmp.Or(cmp.Compare(out[s], out[t]), cmp.Compare(s, t))
	})
	for i, s := range p.list {
		if i == 0 || out[s] != out[p.list[i-1]] {
			p.rooms = append(p.rooms, room{first: i, marked: i})
		}
		last := len(p.rooms) - 1
		p.rooms[last].end = i + 1
		p.place[s], p.of[s] = i, last
	}
	return p
}

// split holds the states that a column leads to some states apart from those that it does not.
func (p *parts) split(b back, states []int, column int) {
	var touched []int
	for _, to := range states {
		for _, s := range b.ahead(to, column) {
			if p.mark(s) {
				touched = append(touched, p.of[s])
			}
		}
	}
	for _, k := range touched {
		p.cut(k)
	}
}

// mark puts a state in front of its part, behind those marked already: is it the first of these?
func (p *parts) mark(s int) bool {
	r := &p.rooms[p.of[s]]
	other := p.list[r.marked]
	p.list[r.marked], p.list[p.place[s]] = s, other
	p.place[other], p.place[s] = p.place[s], r.marked
	r.marked++
	return r.marked == r.first+1
}

// cut makes of a part's marked states and of the others two parts, if there are both. The smaller one gets the new number: since a new part's states are gone through, each state is gone through seldom.
func (p *parts) cut(k int) {
	r := p.rooms[k]
	p.rooms[k].marked = r.first
	if r.marked == r.end {
		return
	}
	small := room{r.first, r.first, r.marked}
	great := room{r.marked, r.marked, r.end}
	if small.end-small.first > great.end-great.first {
		small, great = great, small
	}
	for _, s := range p.list[small.first:small.end] {
		p.of[s] = len(p.rooms)
	}
	p.rooms[k] = great
	p.rooms = append(p.rooms, small)
}

// back leads backwards: to the states from which a column leads to one.
type back struct {
	states int
	start  []int // in from: of each column and state
	from   []int
}

func backwards(a api.Auto) back {
	n, w := len(a.Out), width(a)
	b := back{states: n, start: make([]int, n*w+1), from: make([]int, n*w)}
	for at, to := range a.Next {
		b.start[b.slot(to, at%w)]++
	}
	sum := 0
	for i, count := range b.start {
		sum += count
		b.start[i] = sum
	}
	// Filled from each slot's end on, the starts are where they belong in the end.
	for at, to := range a.Next {
		i := b.slot(to, at%w)
		b.start[i]--
		b.from[b.start[i]] = at / w
	}
	return b
}

func (b back) slot(to, column int) int { return column*b.states + to }

func (b back) ahead(to, column int) []int {
	i := b.slot(to, column)
	return b.from[b.start[i]:b.start[i+1]]
}

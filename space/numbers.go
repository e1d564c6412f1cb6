package space

import (
	"cmp"
	"math"
	"slices"

	"lychgate/addr"
	"lychgate/api"
	"lychgate/trie"
)

// numbers are parted by cuts: the first one is at 0, they rise, and no two side by side are of one class.
type numbers []api.Cut

// addrs and ports are both parted as numbers, and differ in how that is written.
type (
	addrs struct{ numbers }
	ports struct{ numbers }
)

func readAddrs(x api.Attr) (addrs, bool) {
	rows := x.Rows
	x.Rows = nil
	if _, e := trie.Make(rows); e != api.OK || !isBare(x) {
		return addrs{}, false
	}
	var out numbers
	for _, row := range rows {
		out = out.with(row.Prefix.Addr, row.Label)
	}
	return addrs{out}, true
}

func readPorts(x api.Attr) (ports, bool) {
	cuts := x.Cuts
	x.Cuts = nil
	if len(cuts) == 0 || cuts[0].From != 0 || cuts[len(cuts)-1].From > api.MaxPort || !isBare(x) {
		return ports{}, false
	}
	for i := 1; i < len(cuts); i++ {
		if cuts[i].From <= cuts[i-1].From || cuts[i].Class == cuts[i-1].Class {
			return ports{}, false
		}
	}
	return ports{cuts}, true
}

func (p addrs) class(r api.Request) int { return p.classOf(r.Addr) }

func (p ports) class(r api.Request) int { return p.classOf(r.Port) }

func (p addrs) passes(a api.Atom, see func(class int, pass bool)) api.Errno {
	return p.show(ofSet(a.Spans, api.MaxWord), see)
}

func (p ports) passes(a api.Atom, see func(class int, pass bool)) api.Errno {
	return p.show(ofSet(a.Spans, api.MaxPort), see)
}

func (p addrs) fused(to []int) parting { return addrs{p.renamed(to)} }

func (p ports) fused(to []int) parting { return ports{p.renamed(to)} }

// attr lays the covers of the classes' runs one behind the other. Two rows that are the halves of a prefix stand side by side: in one run no cover has them, and two runs side by side are of different classes. So the rows are right.
func (p addrs) attr() api.Attr {
	x := api.Attr{Kind: api.AttrAddr}
	for i, cut := range p.numbers {
		run := api.Span{Lo: cut.From, Hi: min(end(p.numbers[i:])-1, api.MaxWord)}
		prefixes, _ := addr.Cover([]api.Span{run})
		for _, prefix := range prefixes {
			x.Rows = append(x.Rows, api.Row{Prefix: prefix, Label: cut.Class})
		}
	}
	return x
}

func (p ports) attr() api.Attr {
	return api.Attr{Kind: api.AttrPort, Cuts: p.numbers}
}

// partedNumbers are the numbers from 0 to the highest one, two of one class just if they are in the same sets of some tests.
func partedNumbers(tests []api.Atom, highest int) numbers {
	out := numbers{{}}
	for _, a := range tests {
		out = out.split(ofSet(a.Spans, highest))
	}
	return out
}

// ofSet are the numbers from 0 to the highest one, those of a set that is not empty with the class 1, the others with 0.
func ofSet(set []api.Span, highest int) numbers {
	var out numbers
	if set[0].Lo > 0 {
		out = out.with(0, 0)
	}
	for _, s := range set {
		out = out.with(s.Lo, 1)
		if s.Hi < highest {
			out = out.with(s.Hi+1, 0)
		}
	}
	return out
}

// with has a class from a number on, that is above all cuts.
func (n numbers) with(from, class int) numbers {
	if len(n) > 0 && n[len(n)-1].Class == class {
		return n
	}
	return append(n, api.Cut{From: from, Class: class})
}

// end is the number ahead of which the first one of some cuts ends.
func end(n numbers) int {
	if len(n) > 1 {
		return n[1].From
	}
	return math.MaxInt
}

func (n numbers) classes() []int {
	out := make([]int, len(n))
	for i, cut := range n {
		out[i] = cut.Class
	}
	return out
}

func (n numbers) classOf(at int) int {
	i, is := slices.BinarySearchFunc(n, at, func(cut api.Cut, at int) int { return cmp.Compare(cut.From, at) })
	if !is {
		i-- // the first cut is at 0, so there is one ahead
	}
	return n[i].Class
}

func (n numbers) least(class int) api.Sample {
	i := slices.IndexFunc(n, func(cut api.Cut) bool { return cut.Class == class })
	return api.Sample{Number: n[i].From}
}

func (n numbers) renamed(to []int) numbers {
	var out numbers
	for _, cut := range n {
		out = out.with(cut.From, to[cut.Class])
	}
	return out
}

// run are numbers that are of one class by either of two partings: from which on, and the two classes.
type run struct {
	from int
	two  [2]int
}

// beside are the runs of two partings, rising.
func beside(n, m numbers) []run {
	var out []run
	for len(n) > 0 && len(m) > 0 {
		out = append(out, run{max(n[0].From, m[0].From), [2]int{n[0].Class, m[0].Class}})
		first, second := end(n), end(m)
		if first <= second {
			n = n[1:]
		}
		if second <= first {
			m = m[1:]
		}
	}
	return out
}

// split tells apart what one of two partings does.
func (n numbers) split(m numbers) numbers {
	runs := beside(n, m)
	looks := make([][2]int, len(runs))
	for i, r := range runs {
		looks[i] = r.two
	}
	out := make(numbers, len(runs))
	for i, class := range numbered(looks) {
		out[i] = api.Cut{From: runs[i].from, Class: class}
	}
	return out
}

// show shows of each class what of a set's numbers, and what of the others, it has.
func (n numbers) show(set numbers, see func(class int, pass bool)) api.Errno {
	for _, r := range beside(n, set) {
		see(r.two[0], r.two[1] == 1)
	}
	return api.OK
}

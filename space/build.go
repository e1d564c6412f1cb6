package space

import (
	"slices"
	"sync"

	"lychgate/api"
	"lychgate/atom"
	"lychgate/auto"
	"lychgate/request"
)

// mayAsk: are there few enough tests, all right, no two the same?
func mayAsk(l []api.Atom) bool {
	if len(l) > api.MaxSets {
		return false
	}
	for i, a := range l {
		again := func(b api.Atom) bool { return atom.Same(a, b) }
		if !atom.Right(a) || slices.ContainsFunc(l[:i], again) {
			return false
		}
	}
	return true
}

// blank are the attributes of a space of some right tests, not parted yet.
func blank(l []api.Atom) []api.Attr {
	out := []api.Attr{{Kind: api.AttrAddr}, {Kind: api.AttrPort}, {Kind: api.AttrMethod}, {Kind: api.AttrPath}}
	var names []string
	for _, a := range l {
		// Tests of headers have a name, and no others.
		if a.Name != "" {
			names = append(names, a.Name)
		}
	}
	slices.Sort(names)
	for _, name := range slices.Compact(names) {
		out = append(out, api.Attr{Kind: api.AttrHeader, Name: name})
	}
	return out
}

// builtAll has each of some blank attributes parted, by the tests that ask it.
func builtAll(x []api.Attr, tests [][]api.Atom) ([]api.Attr, api.Errno) {
	limits := make([]api.Errno, len(x))
	var all sync.WaitGroup
	for i := range x {
		all.Add(1)
		go func() {
			defer all.Done()
			x[i], limits[i] = built(x[i], tests[i])
		}()
	}
	all.Wait()
	if slices.Contains(limits, api.ErrNodeLimit) {
		return nil, api.ErrNodeLimit
	}
	return x, api.OK
}

func built(x api.Attr, tests []api.Atom) (api.Attr, api.Errno) {
	p, e := parted(x, tests)
	if e != api.OK {
		return api.Attr{}, e
	}
	return made(p)
}

// parted is a blank attribute's parting by the tests that ask it.
func parted(x api.Attr, tests []api.Atom) (parting, api.Errno) {
	switch x.Kind {
	case api.AttrAddr:
		return addrs{partedNumbers(tests, api.MaxWord)}, api.OK
	case api.AttrPort:
		return ports{partedNumbers(tests, api.MaxPort)}, api.OK
	case api.AttrMethod:
		return partedMethods(tests), api.OK
	case api.AttrPath:
		return partedPaths(tests)
	}
	return partedHeaders(x.Name, tests)
}

func partedPaths(tests []api.Atom) (parting, api.Errno) {
	j, e := joinedTo(request.Paths(), tests)
	if e != api.OK {
		return nil, e
	}
	return paths{j.byLeast()}, api.OK
}

func partedHeaders(name string, tests []api.Atom) (parting, api.Errno) {
	j, e := joinedTo(request.Values(), tests)
	if e != api.OK {
		return nil, e
	}
	return headers{j.besideNone(), name}, api.OK
}

// joined is an automaton that tells apart members from other texts, and all texts by the tests that they pass.
type joined struct {
	by   api.Auto
	told []told // of each label
}

// told is of a label's texts: are they members, and do they pass at least one test?
type told struct{ member, passed bool }

// joinedTo is that of some tests, and of the automaton that has the label 1 of members, and 0 of all else.
func joinedTo(members api.Auto, tests []api.Atom) (joined, api.Errno) {
	out := joined{members, []told{{}, {member: true}}}
	for _, a := range tests {
		pattern, e := auto.Of(patternOf(a))
		if e != api.OK {
			return joined{}, e
		}
		by, pairs, e := auto.Join(out.by, pattern)
		if e != api.OK {
			return joined{}, e
		}
		next := joined{by: by}
		for _, two := range pairs {
			old := out.told[two[0]]
			next.told = append(next.told, told{old.member, old.passed || two[1] == 1})
		}
		out = next
	}
	return out, api.OK
}

// byLeast are the members, in classes that are numbered by their least texts.
func (j joined) byLeast() texts {
	return j.classed(make([]int, len(j.told)), 0)
}

// besideNone are the members beside NONE, which is ahead of all of them, in a class with those that pass no test, as it does not.
func (j joined) besideNone() texts {
	labels := make([]int, len(j.told))
	for label, t := range j.told {
		if t.member && !t.passed {
			labels[label] = 1
		}
	}
	return j.classed(labels, 1)
}

// classed gives the members' labels that have no new one yet new ones, above the highest, as their least texts rise.
func (j joined) classed(labels []int, highest int) texts {
	// The states are numbered as their least texts rise.
	for _, label := range j.by.Out {
		if j.told[label].member && labels[label] == 0 {
			highest++
			labels[label] = highest
		}
	}
	by, _ := auto.Map(j.by, labels)
	return texts{by}
}

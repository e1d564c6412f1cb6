package prune

import (
	"lychgate/api"
	"lychgate/arena"
	"lychgate/dd"
)

// no is false, by layer 14.
const no = 0

// living are those of a policy's rules that change something, at their place.
func living(a *arena.Arena, row []api.Ruled) ([]api.Ruled, api.Errno) {
	denied, e := allDenied(a, row)
	if e != api.OK {
		return nil, e
	}
	// By effects, where a rule changes nothing: a rule that denies outdoes those that allow, wherever they stand.
	settled := map[int]int{api.ItemDeny: no, api.ItemAllow: denied}
	out := row[:0:0] // the first one that stays gets room of its own
	for _, x := range row {
		ahead := settled[x.Effect]
		f, e := with(a, ahead, x.Root)
		if e != api.OK {
			return nil, e
		}
		if f != ahead {
			settled[x.Effect] = f
			out = append(out, x)
		}
	}
	return out, api.OK
}

// allDenied is true where a rule that denies is.
func allDenied(a *arena.Arena, row []api.Ruled) (int, api.Errno) {
	f, e := no, api.OK
	for _, x := range row {
		if x.Effect != api.ItemDeny {
			continue
		}
		if f, e = dd.Or(a, f, x.Root); e != api.OK {
			return no, e
		}
	}
	return f, api.OK
}

// with is what is settled and a root together: just what is settled, if the root says nothing more. Or alone would tell that; but what is made on the way is promised.
func with(a *arena.Arena, settled, root int) (int, api.Errno) {
	rest, e := dd.Not(a, settled)
	if e != api.OK {
		return no, e
	}
	more, e := dd.And(a, root, rest)
	if e != api.OK {
		return no, e
	}
	if more == no {
		return settled, api.OK
	}
	return dd.Or(a, settled, root)
}

// merged is the one rule that a row becomes: the first one, true where one of all is.
func merged(a *arena.Arena, row []api.Ruled) ([]api.Ruled, api.Errno) {
	one := row[0]
	for _, x := range row[1:] {
		f, e := dd.Or(a, one.Root, x.Root)
		if e != api.OK {
			return nil, e
		}
		one.Root = f
	}
	return []api.Ruled{one}, api.OK
}

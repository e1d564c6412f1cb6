package auto

import (
	"slices"
	"strings"

	"lychgate/api"
)

const (
	byteCount = 256              // bytes that there are
	maxRaw    = api.MaxLabel + 1 // states of an automaton that may be
)

// mayBe: does it lead from each state by each byte to a state, and has each state a label?
func mayBe(a api.Auto) bool {
	if len(a.Bytes) != byteCount || len(a.Out) < 1 || len(a.Out) > maxRaw {
		return false
	}
	if len(a.Next) != len(a.Out)*(int(slices.Max([]byte(a.Bytes)))+1) {
		return false
	}
	isNone := func(s int) bool { return s < 0 || s >= len(a.Out) }
	isNoLabel := func(n int) bool { return !isLabel(n) }
	return !slices.ContainsFunc(a.Next, isNone) && !slices.ContainsFunc(a.Out, isNoLabel)
}

func isLabel(n int) bool { return 0 <= n && n <= api.MaxLabel }

// width is how many columns an automaton that may be has.
func width(a api.Auto) int { return len(a.Next) / len(a.Out) }

// step is the state that follows one by a byte.
func step(a api.Auto, state, b int) int {
	return a.Next[state*width(a)+int(a.Bytes[b])]
}

// byteColumns are the columns of all bytes as an automaton has them.
func byteColumns(column []int) string {
	out := make([]byte, len(column))
	for b, c := range column {
		out[b] = byte(c)
	}
	return string(out)
}

// leastText is the least text that leads to a state of a right automaton, told from its end: the first place of Next that leads to the state is that by which it was met first.
func leastText(a api.Auto, state int) string {
	var out []byte
	for state > 0 {
		at := slices.Index(a.Next, state)
		column := byte(at % width(a))
		out = append(out, byte(strings.IndexByte(a.Bytes, column)))
		state = at / width(a)
	}
	slices.Reverse(out)
	return string(out)
}

package span_test

import (
	"math"
	"math/rand"
	"slices"
	"testing"

	"lychgate/api"
)

// spans are made of their ends: lo, hi, lo, hi.
func spans(ends ...int) []api.Span {
	var out []api.Span
	for i := 0; i+1 < len(ends); i += 2 {
		out = append(out, api.Span{Lo: ends[i], Hi: ends[i+1]})
	}
	return out
}

// wrongSpans are spans that may stand in no set and that Make refuses.
func wrongSpans() []api.Span {
	return spans(
		1, 0,
		4, 3,
		-1, -1,
		-1, 4,
		0, -1,
		4, api.MaxWord+1,
		api.MaxWord+1, api.MaxWord+1,
		api.MaxWord+1, api.MaxWord,
		math.MinInt, 0,
		math.MinInt, math.MaxInt,
		0, math.MaxInt,
		math.MaxInt, math.MaxInt,
		math.MinInt, math.MinInt,
		math.MaxInt, math.MinInt,
	)
}

// wrongLists are lists that are no sets, though a span of theirs may be fine.
func wrongLists() [][]api.Span {
	out := [][]api.Span{
		spans(3, 5, 6, 7),       // side by side
		spans(3, 5, 5, 7),       // a number twice
		spans(3, 5, 4, 7),       // overlapping
		spans(3, 9, 4, 5),       // within
		spans(3, 5, 3, 5),       // the same
		spans(7, 7, 3, 5),       // falling
		spans(0, 0, 9, 9, 5, 5), // falling later on
		spans(0, api.MaxWord-1, api.MaxWord, api.MaxWord),
		spans(api.MaxWord, api.MaxWord, 0, 0),
	}
	for _, s := range wrongSpans() {
		out = append(out, []api.Span{s}, []api.Span{{Lo: 0, Hi: 1}, s}, []api.Span{s, {Lo: 9, Hi: 10}})
	}
	return out
}

// window is a run of numbers that the number by number tests look at.
const window = 40

// windows are where the runs begin: the lowest numbers, the middle (a bit that a sign might eat), the highest ones.
func windows() []int {
	return []int{0, 1<<31 - window/2, api.MaxWord - window + 1}
}

// randomSpans lie in one window, in whatever order, and may overlap.
func randomSpans(r *rand.Rand, from, most int) []api.Span {
	var out []api.Span
	for range r.Intn(most + 1) {
		lo := r.Intn(window)
		hi := lo + r.Intn(min(window-lo, 1+r.Intn(window)))
		out = append(out, api.Span{Lo: from + lo, Hi: from + hi})
	}
	return out
}

// randomSet is made number by number, without a call of the package.
func randomSet(r *rand.Rand, from int) []api.Span {
	var marks [window]bool
	turn := 1 + r.Intn(8)
	on := r.Intn(2) == 0
	for i := range marks {
		if r.Intn(turn) == 0 {
			on = !on
		}
		marks[i] = on
	}
	return setOf(from, marks)
}

// setOf is the set of the numbers that are marked.
func setOf(from int, marks [window]bool) []api.Span {
	var out []api.Span
	for i, on := range marks {
		if !on {
			continue
		}
		if i > 0 && marks[i-1] {
			out[len(out)-1].Hi++
		} else {
			out = append(out, api.Span{Lo: from + i, Hi: from + i})
		}
	}
	return out
}

// covers: is a number in one of some spans?
func covers(l []api.Span, n int) bool {
	return slices.ContainsFunc(l, func(s api.Span) bool { return s.Lo <= n && n <= s.Hi })
}

// roomy is a copy with spare room that holds something, so that a write into it is seen.
func roomy(l []api.Span) []api.Span {
	out := make([]api.Span, len(l), len(l)+4)
	copy(out, l)
	for i := len(l); i < cap(out); i++ {
		out[:cap(out)][i] = api.Span{Lo: -7, Hi: -8}
	}
	return out
}

// untouched: is a roomy copy still what it was made of, its spare room too?
func untouched(copied, l []api.Span) bool {
	for _, s := range copied[len(l):cap(copied)] {
		if s != (api.Span{Lo: -7, Hi: -8}) {
			return false
		}
	}
	return slices.Equal(copied, l)
}

// scribble writes over a whole list, its spare room too.
func scribble(l []api.Span) {
	l = l[:cap(l)]
	for i := range l {
		l[i] = api.Span{Lo: -1, Hi: -2}
	}
}

func wantSet(t *testing.T, what string, got []api.Span, e api.Errno, want []api.Span) {
	t.Helper()
	if e != api.OK || !slices.Equal(got, want) {
		t.Errorf("%s: %v, error %d; want %v", what, got, e, want)
	}
}

func wantError(t *testing.T, what string, got []api.Span, e, want api.Errno) {
	t.Helper()
	if e != want || len(got) != 0 {
		t.Errorf("%s: %v, error %d; want error %d and nothing", what, got, e, want)
	}
}

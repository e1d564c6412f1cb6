package auto_test

import (
	"math"
	"math/rand"
	"slices"
	"testing"

	"lychgate/api"
	"lychgate/auto"
)

// wrongs are some that may not be, and some that may be, but are not in their one form.
func wrongs() []api.Auto {
	return []api.Auto{
		{},
		{Bytes: noughts},
		{Bytes: noughts, Next: []int{1}, Out: []int{0}},
		{Bytes: noughts, Next: []int{0}, Out: []int{-1}},
		{Bytes: noughts, Next: []int{-1}, Out: []int{0}},
		{Bytes: noughts[1:], Next: []int{0}, Out: []int{0}},
		{Bytes: columns("a"), Next: []int{0}, Out: []int{0}},
		{Bytes: noughts, Next: []int{1, 0}, Out: []int{5, 5}},
		{Bytes: noughts, Next: []int{0, 0}, Out: []int{0, 1}},
		{Bytes: columns("a"), Next: []int{0, 0}, Out: []int{0}},
		{Bytes: columns("a"), Next: []int{2, 1, 1, 1, 1, 1}, Out: []int{0, 1, 2}},
		chain(257),
	}
}

func wantMap(t *testing.T, a api.Auto, labels []int) api.Auto {
	t.Helper()
	b, e := auto.Map(a, labels)
	if e != api.OK || !auto.Right(b) || !labelled(a, b, func(x, y int) bool { return labels[x] == y }) {
		t.Fatalf("Map(%s, %v): %s, error %d", told(a), labels, told(b), e)
	}
	return b
}

func TestMapExamples(t *testing.T) {
	if b := wantMap(t, of(t, "a"), []int{3, 3}); !same(b, api.Auto{Bytes: noughts, Next: []int{0}, Out: []int{3}}) {
		t.Errorf("3, 3: %s", told(b))
	}
	if b, e := auto.Map(of(t, "a"), []int{3}); e != api.ErrArg || !isEmpty(b) {
		t.Errorf("3: %s, error %d", told(b), e)
	}
}

func TestMapOfRandom(t *testing.T) {
	r := rand.New(rand.NewSource(6))
	fewer := 0
	for range 500 {
		a := randomRight(t, r, 1+r.Intn(12), 1+r.Intn(4), 4)
		labels := []int{r.Intn(3), r.Intn(3), r.Intn(3), r.Intn(3)}
		b := wantMap(t, a, labels)
		if len(b.Out) < len(a.Out) {
			fewer++
		}
		if !rightByWords(b) {
			t.Fatalf("Map(%s, %v): %s is not right", told(a), labels, told(b))
		}
		if c := wantMap(t, a, upTo(4)); !same(c, a) {
			t.Fatalf("Map(%s) with its own labels: %s", told(a), told(c))
		}
	}
	if fewer < 50 {
		t.Errorf("only %d became less", fewer)
	}
}

func TestMapAtTheLimits(t *testing.T) {
	a := api.Auto{Bytes: noughts, Next: []int{1, 0}, Out: []int{2, 65535}}
	labels := slices.Repeat([]int{-1}, 65536)
	labels[2], labels[65535] = 65535, 0
	// Labels that a has not may be anything.
	if b := wantMap(t, a, labels); !slices.Equal(b.Out, []int{65535, 0}) {
		t.Errorf("the highest label: %s", told(b))
	}
	if b := wantMap(t, a, append(slices.Clone(labels), 5)); !slices.Equal(b.Out, []int{65535, 0}) {
		t.Errorf("more than all labels: %s", told(b))
	}
	if b, e := auto.Map(a, labels[:65535]); e != api.ErrArg || !isEmpty(b) {
		t.Errorf("the highest label has no element: error %d", e)
	}
	if b := wantMap(t, counter('a', 256), upTo(256)); !same(b, counter('a', 256)) {
		t.Errorf("256 states: %s", told(b))
	}
	if b := wantMap(t, counter('a', 256), slices.Repeat([]int{0, 1}, 128)); !same(b, counter('a', 2)) {
		t.Errorf("256 states that become two: %s", told(b))
	}
}

func TestMapOfWrong(t *testing.T) {
	for _, l := range [][]int{nil, {}, {3}, {3, -1}, {-1, 3}, {3, 65536}, {65536, 3}, {math.MinInt, 0}, {0, math.MaxInt}} {
		if b, e := auto.Map(of(t, "a"), l); e != api.ErrArg || !isEmpty(b) {
			t.Errorf("Map of that of a with %v: %s, error %d", l, told(b), e)
		}
	}
	for _, wrong := range wrongs() {
		if b, e := auto.Map(wrong, upTo(100)); e != api.ErrArg || !isEmpty(b) {
			t.Errorf("Map(%s): error %d", told(wrong), e)
		}
	}
}

package auto_test

import (
	"math/rand"
	"slices"
	"testing"

	"lychgate/api"
	"lychgate/auto"
)

// pairsByWords are the pairs of labels of all texts, rising.
func pairsByWords(a, b api.Auto) [][2]int {
	met := map[[2]int]bool{}
	labelled(a, b, func(x, y int) bool {
		met[[2]int{x, y}] = true
		return true
	})
	var out [][2]int
	for p := range met {
		out = append(out, p)
	}
	slices.SortFunc(out, func(p, q [2]int) int {
		if p[0] != q[0] {
			return p[0] - q[0]
		}
		return p[1] - q[1]
	})
	return out
}

func firsts(pairs [][2]int) []int {
	out := make([]int, len(pairs))
	for i, p := range pairs {
		out[i] = p[0]
	}
	return out
}

func seconds(pairs [][2]int) []int {
	out := make([]int, len(pairs))
	for i, p := range pairs {
		out[i] = p[1]
	}
	return out
}

func wantJoin(t *testing.T, a, b api.Auto) (api.Auto, [][2]int) {
	t.Helper()
	c, pairs, e := auto.Join(a, b)
	if e != api.OK || !auto.Right(c) || !slices.Equal(pairs, pairsByWords(a, b)) {
		t.Fatalf("Join(%s, %s): %s, %v, error %d", told(a), told(b), told(c), pairs, e)
	}
	if !labelled(a, c, func(x, n int) bool { return pairs[n][0] == x }) || !labelled(b, c, func(y, n int) bool { return pairs[n][1] == y }) {
		t.Fatalf("Join(%s, %s): %s, %v tells other labels", told(a), told(b), told(c), pairs)
	}
	one, e := auto.Map(c, firsts(pairs))
	two, f := auto.Map(c, seconds(pairs))
	if e != api.OK || f != api.OK || !same(one, a) || !same(two, b) {
		t.Fatalf("Join(%s, %s): its firsts and seconds are others", told(a), told(b))
	}
	return c, pairs
}

func TestJoinExamples(t *testing.T) {
	c, pairs := wantJoin(t, of(t, "a"), of(t, "**"))
	if !same(c, of(t, "a")) || !slices.Equal(pairs, [][2]int{{0, 1}, {1, 1}}) {
		t.Errorf("of a and of **: %s, %v", told(c), pairs)
	}
	c, pairs = wantJoin(t, of(t, "**"), of(t, "a"))
	if !same(c, of(t, "a")) || !slices.Equal(pairs, [][2]int{{1, 0}, {1, 1}}) {
		t.Errorf("of ** and of a: %s, %v", told(c), pairs)
	}
}

func TestJoinOfPatterns(t *testing.T) {
	patterns := []string{"", "a", "b", "**", "*", "?", "/a/*.txt", "/a/**", "**/b", "[!a]*", "*a*b*", "/pub/*", "/pub/**"}
	for _, p := range patterns {
		for _, q := range patterns {
			wantJoin(t, of(t, p), of(t, q))
		}
	}
}

func TestJoinOfRandom(t *testing.T) {
	r := rand.New(rand.NewSource(5))
	for range 500 {
		a := randomRight(t, r, 1+r.Intn(9), 1+r.Intn(4), 1+r.Intn(5))
		b := randomRight(t, r, 1+r.Intn(9), 1+r.Intn(4), 1+r.Intn(5))
		c, pairs := wantJoin(t, a, b)
		d, other := wantJoin(t, b, a)
		if len(other) != len(pairs) || len(c.Out) != len(d.Out) {
			t.Fatalf("Join(%s, %s): the other way round %v, %v", told(a), told(b), pairs, other)
		}
	}
}

// Joined with itself, an automaton's labels are numbered by rising.
func TestJoinOfSame(t *testing.T) {
	a := api.Auto{Bytes: columns("a"), Next: []int{0, 1, 1, 2, 2, 0}, Out: []int{65535, 7, 0}}
	c, pairs := wantJoin(t, a, a)
	if !slices.Equal(pairs, [][2]int{{0, 0}, {7, 7}, {65535, 65535}}) || !slices.Equal(c.Out, []int{2, 1, 0}) || !slices.Equal(c.Next, a.Next) {
		t.Errorf("%v, %s", pairs, told(c))
	}
}

func parity() api.Auto {
	return api.Auto{Bytes: noughts, Next: []int{1, 0}, Out: []int{0, 1}}
}

func TestJoinAtTheLimit(t *testing.T) {
	c, pairs := wantJoin(t, counter('a', 16), counter('b', 16))
	if len(c.Out) != 256 || len(pairs) != 256 {
		t.Errorf("16 times 16: %d states, %d pairs", len(c.Out), len(pairs))
	}
	if c, _ := wantJoin(t, chain(255), parity()); len(c.Out) != 256 {
		t.Errorf("255 in a row, then both: %d states", len(c.Out))
	}
	if c, _ := wantJoin(t, chain(256), chain(256)); !same(c, chain(256)) {
		t.Errorf("256 with itself: %s", told(c))
	}
	for _, two := range [][2]api.Auto{
		{counter('a', 16), counter('b', 17)},
		{counter('a', 256), counter('b', 2)},
		{counter('a', 256), counter('b', 256)},
		{chain(256), parity()},
		{parity(), chain(256)},
	} {
		if c, pairs, e := auto.Join(two[0], two[1]); e != api.ErrNodeLimit || !isEmpty(c) || len(pairs) != 0 {
			t.Errorf("Join(%s, %s): %s, %v, error %d", told(two[0]), told(two[1]), told(c), pairs, e)
		}
	}
}

func TestJoinOfAllColumns(t *testing.T) {
	a := api.Auto{Bytes: distinct()}
	for s := range 256 {
		for c := range 256 {
			a.Next = append(a.Next, (s+c)%256)
		}
		a.Out = append(a.Out, s%2)
		if s == 0 {
			a.Out[0] = 2
		}
	}
	if c, pairs := wantJoin(t, a, of(t, "**")); !slices.Equal(c.Next, a.Next) || len(pairs) != 3 {
		t.Errorf("256 columns: %s, %v", told(c), pairs)
	}
}

func TestJoinOfWrong(t *testing.T) {
	right := of(t, "a")
	for _, wrong := range wrongs() {
		for _, two := range [][2]api.Auto{{wrong, right}, {right, wrong}, {wrong, wrong}, {counter('a', 16), wrong}} {
			if c, pairs, e := auto.Join(two[0], two[1]); e != api.ErrArg || !isEmpty(c) || len(pairs) != 0 {
				t.Errorf("Join(%s, %s): error %d", told(two[0]), told(two[1]), e)
			}
		}
	}
}

package auto_test

import (
	"math/rand"
	"slices"
	"strconv"
	"testing"

	"lychgate/api"
	"lychgate/auto"
)

// roomy is a list with spare room, which is filled with a mark.
func roomy(l []int) []int {
	out := append(slices.Clone(l), -7, -7, -7, -7)
	return out[:len(l)]
}

func untouched(l, was []int) bool {
	spare := l[len(l):cap(l)]
	return slices.Equal(l, was) && slices.Equal(spare[:4], []int{-7, -7, -7, -7})
}

// spoil writes over all of a list, spare room too.
func spoil[T any](l []T, with T) {
	l = l[:cap(l)]
	for i := range l {
		l[i] = with
	}
}

func spoilAuto(a api.Auto) {
	spoil(a.Next, -9)
	spoil(a.Out, -9)
}

// answers are all that the calls answer of an automaton.
func answers(a api.Auto, labels []int) []api.Auto {
	one, _ := auto.Least(a)
	two, _ := auto.Map(a, labels)
	three, _, _ := auto.Join(a, a)
	return []api.Auto{one, two, three}
}

func TestListsAreNotTouched(t *testing.T) {
	r := rand.New(rand.NewSource(9))
	for range 100 {
		whole := randomRight(t, r, 1+r.Intn(9), 1+r.Intn(4), 3)
		a := api.Auto{Bytes: whole.Bytes, Next: roomy(whole.Next), Out: roomy(whole.Out)}
		labels := roomy([]int{2, 1, 2})
		was := answers(whole, labels)
		got := answers(a, labels)
		auto.Right(a)
		auto.Run(a, "abc")
		auto.Shortest(a, 1)
		for i := range got {
			spoilAuto(got[i])
		}
		if !untouched(a.Next, whole.Next) || !untouched(a.Out, whole.Out) || !untouched(labels, []int{2, 1, 2}) {
			t.Fatalf("%s was written into", told(whole))
		}
		for i, b := range answers(a, labels) {
			if !same(b, was[i]) {
				t.Fatalf("what was answered before is seen in an answer of %s", told(whole))
			}
		}
	}
}

// What came out stays as it is, whatever is made of what went in.
func TestListsAreNotKept(t *testing.T) {
	a := clone(of(t, "/a/*"))
	labels := []int{4, 5}
	was := answers(a, labels)
	want := answers(of(t, "/a/*"), []int{4, 5})
	spoilAuto(a)
	spoil(labels, -9)
	for i := range was {
		if !same(was[i], want[i]) {
			t.Errorf("answer %d was changed", i)
		}
	}
}

func TestAnswersShareNothing(t *testing.T) {
	a, b := of(t, "a*"), of(t, "*b")
	c, pairs, _ := auto.Join(a, b)
	d, other, _ := auto.Join(a, b)
	spoil(c.Next, -9)
	if !slices.Equal(c.Out, d.Out) {
		t.Errorf("Next and Out share memory")
	}
	spoil(c.Out, -9)
	if !slices.Equal(pairs, other) {
		t.Errorf("Out and the pairs share memory")
	}
	spoil(pairs, [2]int{-9, -9})
	if e, _, _ := auto.Join(a, b); !same(d, e) || !auto.Right(d) {
		t.Errorf("two answers share memory")
	}
}

func TestPiecesAreNotTouched(t *testing.T) {
	set := append([]api.Span{{Lo: 'a', Hi: 'c'}}, api.Span{Lo: -7, Hi: -7})[:1]
	l := append([]api.Piece{{Kind: api.PieceSet, Set: set}, {Kind: api.PieceStar}}, api.Piece{Kind: -7})[:2]
	a, e := auto.Of(l)
	if e != api.OK || !same(a, of(t, "[a-c]*")) {
		t.Fatalf("error %d", e)
	}
	if set[0] != (api.Span{Lo: 'a', Hi: 'c'}) || set[:2][1].Lo != -7 || l[:3][2].Kind != -7 || l[0].Kind != api.PieceSet || l[1].Kind != api.PieceStar {
		t.Errorf("pieces were written into")
	}
	set[0] = api.Span{}
	l[0], l[1] = api.Piece{}, api.Piece{}
	if !same(a, of(t, "[a-c]*")) {
		t.Errorf("pieces are kept")
	}
}

func TestCallsDoNotDisturbOneAnother(t *testing.T) {
	patterns := []string{"a", "*a*", "/a/**", "**[b-d]?"}
	shared := of(t, "*x?")
	for i := range 8 {
		t.Run(strconv.Itoa(i), func(t *testing.T) {
			t.Parallel()
			for range 20 {
				p := of(t, patterns[i%4])
				c, pairs := wantJoin(t, p, shared)
				wantMap(t, c, firsts(pairs))
				if n, e := auto.Run(shared, "axb"); n != 1 || e != api.OK {
					t.Errorf("Run: %d, error %d", n, e)
				}
			}
		})
	}
}

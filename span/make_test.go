package span_test

import (
	"fmt"
	"math/rand"
	"slices"
	"testing"

	"lychgate/api"
	"lychgate/span"
)

func TestRight(t *testing.T) {
	for _, l := range [][]api.Span{
		nil,
		{},
		spans(0, 0),
		spans(api.MaxWord, api.MaxWord),
		spans(0, api.MaxWord),
		spans(3, 5, 7, 7),
		spans(0, 0, 2, api.MaxWord),
		spans(0, api.MaxWord-2, api.MaxWord, api.MaxWord),
		spans(0, 0, 2, 2, 4, 4, 6, 6),
	} {
		if !span.Right(l) {
			t.Errorf("%v is a set", l)
		}
	}
	for _, l := range wrongLists() {
		if span.Right(l) {
			t.Errorf("%v is no set", l)
		}
	}
}

func TestMake(t *testing.T) {
	for _, c := range []struct{ l, want []api.Span }{
		{spans(7, 9, 3, 4, 5, 5, 9, 20), spans(3, 5, 7, 20)},
		{nil, nil},
		{[]api.Span{}, nil},
		{spans(0, api.MaxWord), spans(0, api.MaxWord)},
		{spans(api.MaxWord, api.MaxWord, 0, 0), spans(0, 0, api.MaxWord, api.MaxWord)},
		{spans(0, api.MaxWord-1, api.MaxWord, api.MaxWord), spans(0, api.MaxWord)},
		{spans(5, 9, 6, 7), spans(5, 9)},         // within, told behind
		{spans(6, 7, 5, 9), spans(5, 9)},         // within, told ahead
		{spans(5, 9, 6, 7, 9, 11), spans(5, 11)}, // a short one hides no long one
		{spans(5, 5, 5, 9, 5, 7), spans(5, 9)},   // one Lo
		{spans(5, 5, 5, 5, 5, 5), spans(5, 5)},   // one span
		{spans(5, 6, 7, 8), spans(5, 8)},         // side by side
		{spans(5, 6, 8, 9), spans(5, 6, 8, 9)},   // one number between
		{spans(8, 9, 5, 6), spans(5, 6, 8, 9)},   // in whatever order
		{spans(1, 1, 3, 3, 2, 2), spans(1, 3)},   // what stands between comes last
		{spans(0, 9, 2, 3, 11, 12), spans(0, 9, 11, 12)},
	} {
		got, e := span.Make(c.l)
		wantSet(t, fmt.Sprint("Make", c.l), got, e, c.want)
	}
}

func TestMakeRefuses(t *testing.T) {
	for _, s := range wrongSpans() {
		for _, l := range [][]api.Span{
			{s},
			{{Lo: 1, Hi: 2}, s},
			{s, {Lo: 1, Hi: 2}},
			{{Lo: 0, Hi: api.MaxWord}, s, {Lo: 0, Hi: api.MaxWord}},
		} {
			got, e := span.Make(l)
			wantError(t, fmt.Sprint("Make", l), got, e, api.ErrSpanBound)
		}
	}
}

// What is no set may still be told to Make: it asks for bounds alone.
func TestMakeOfNoSets(t *testing.T) {
	for _, l := range [][]api.Span{spans(3, 5, 6, 7), spans(3, 5, 4, 7), spans(7, 7, 3, 5)} {
		got, e := span.Make(l)
		if e != api.OK || !span.Right(got) {
			t.Errorf("Make%v: %v, error %d", l, got, e)
		}
	}
}

func TestMakeNumberByNumber(t *testing.T) {
	r := rand.New(rand.NewSource(2))
	for i := range 6000 {
		from := windows()[i%3]
		l := randomSpans(r, from, 12)
		if i%5 == 0 {
			l = append(l, randomSpans(r, windows()[(i+1)%3], 5)...)
		}
		got, e := span.Make(l)
		if e != api.OK || !span.Right(got) {
			t.Fatalf("Make%v: %v, error %d", l, got, e)
		}
		for _, from := range windows() {
			for n := from; n < from+window; n++ {
				if covers(got, n) != covers(l, n) {
					t.Fatalf("Make%v: %v: wrong of %d", l, got, n)
				}
			}
		}
	}
}

// A set does not hang on the order in which its spans were told, and is made of itself.
func TestMakeIsOneForm(t *testing.T) {
	r := rand.New(rand.NewSource(3))
	for i := range 2000 {
		l := randomSpans(r, windows()[i%3], 12)
		want, _ := span.Make(l)
		mixed := slices.Clone(l)
		r.Shuffle(len(mixed), func(i, j int) { mixed[i], mixed[j] = mixed[j], mixed[i] })
		got, e := span.Make(mixed)
		wantSet(t, fmt.Sprint("Make", mixed), got, e, want)
		got, e = span.Make(want)
		wantSet(t, fmt.Sprint("Make", want), got, e, want)
	}
}

func TestHas(t *testing.T) {
	a := spans(3, 5, 7, 20, api.MaxWord, api.MaxWord)
	for _, c := range []struct {
		n    int
		want bool
	}{
		{2, false}, {3, true}, {4, true}, {5, true}, {6, false}, {7, true}, {20, true}, {21, false},
		{api.MaxWord - 1, false}, {api.MaxWord, true}, {api.MaxWord + 1, false}, {0, false}, {-1, false},
		{3 + 1<<32, false}, {3 - 1<<32, false},
	} {
		if span.Has(a, c.n) != c.want {
			t.Errorf("Has of %d: not %v", c.n, c.want)
		}
	}
	if span.Has(nil, 0) || !span.Has(spans(0, api.MaxWord), 0) || span.Has(spans(0, api.MaxWord), -1) {
		t.Error("Has at the bounds")
	}
}

func TestSize(t *testing.T) {
	for _, c := range []struct {
		a    []api.Span
		want int
	}{
		{nil, 0},
		{spans(0, 0), 1},
		{spans(api.MaxWord, api.MaxWord), 1},
		{spans(0, 9, 20, 29), 20},
		{spans(3, 5, 7, 20), 17},
		{spans(0, api.MaxWord), 1 << 32},
		{spans(0, 0, 2, api.MaxWord), 1<<32 - 1},
	} {
		if got := span.Size(c.a); got != c.want {
			t.Errorf("Size%v: %d, want %d", c.a, got, c.want)
		}
	}
}

func TestHasAndSizeOfNoSets(t *testing.T) {
	for _, l := range wrongLists() {
		if span.Size(l) != 0 {
			t.Errorf("Size%v: %d", l, span.Size(l))
		}
		for _, s := range l {
			if span.Has(l, s.Lo) || span.Has(l, s.Hi) || span.Has(l, 0) {
				t.Errorf("Has%v", l)
			}
		}
	}
}

func TestHasAndSizeNumberByNumber(t *testing.T) {
	r := rand.New(rand.NewSource(4))
	for i := range 1000 {
		from := windows()[i%3]
		a := randomSet(r, from)
		count := 0
		for n := from - 2; n < from+window+2; n++ {
			if span.Has(a, n) != covers(a, n) {
				t.Fatalf("Has of %v: wrong of %d", a, n)
			}
			if covers(a, n) {
				count++
			}
		}
		if span.Size(a) != count {
			t.Fatalf("Size%v: %d, want %d", a, span.Size(a), count)
		}
	}
}

package span_test

import (
	"fmt"
	"math/rand"
	"slices"
	"testing"

	"lychgate/api"
	"lychgate/span"
)

// call is a set of two sets, and what it says of a number that is in the one, in the other.
type call struct {
	name string
	of   func(a, b []api.Span) ([]api.Span, api.Errno)
	has  func(a, b bool) bool
}

func calls() []call {
	return []call{
		{"Union", span.Union, func(a, b bool) bool { return a || b }},
		{"Meet", span.Meet, func(a, b bool) bool { return a && b }},
		{"Less", span.Less, func(a, b bool) bool { return a && !b }},
	}
}

func TestTwoSets(t *testing.T) {
	all := spans(0, api.MaxWord)
	for _, c := range []struct{ a, b, union, meet, less []api.Span }{
		{spans(0, 9, 20, 29), spans(5, 24), spans(0, 29), spans(5, 9, 20, 24), spans(0, 4, 25, 29)},
		{spans(5, 24), spans(0, 9, 20, 29), spans(0, 29), spans(5, 9, 20, 24), spans(10, 19)},
		{nil, nil, nil, nil, nil},
		{spans(3, 5), nil, spans(3, 5), nil, spans(3, 5)},
		{nil, spans(3, 5), spans(3, 5), nil, nil},
		{all, nil, all, nil, all},
		{nil, all, all, nil, nil},
		{all, all, all, all, nil},
		{all, spans(0, 0, api.MaxWord, api.MaxWord), all, spans(0, 0, api.MaxWord, api.MaxWord), spans(1, api.MaxWord-1)},
		{spans(0, 4), spans(5, 9), spans(0, 9), nil, spans(0, 4)},         // side by side
		{spans(5, 9), spans(0, 4), spans(0, 9), nil, spans(5, 9)},         // and the other way round
		{spans(0, 4), spans(6, 9), spans(0, 4, 6, 9), nil, spans(0, 4)},   // one number between
		{spans(0, 5), spans(5, 9), spans(0, 9), spans(5, 5), spans(0, 4)}, // one number in both
		{spans(0, 9), spans(4, 4), spans(0, 9), spans(4, 4), spans(0, 3, 5, 9)},
		{spans(0, 1, 3, 4, 6, 7), spans(2, 2, 5, 5), spans(0, 7), nil, spans(0, 1, 3, 4, 6, 7)},
		{spans(0, 2, 4, 6), spans(0, 2, 4, 6), spans(0, 2, 4, 6), spans(0, 2, 4, 6), nil},
	} {
		for i, want := range [][]api.Span{c.union, c.meet, c.less} {
			f := calls()[i]
			got, e := f.of(c.a, c.b)
			wantSet(t, fmt.Sprint(f.name, c.a, c.b), got, e, want)
		}
	}
}

func TestTwoSetsRefuse(t *testing.T) {
	fine := [][]api.Span{nil, spans(0, 9, 20, 29), spans(0, api.MaxWord)}
	for _, l := range wrongLists() {
		for _, f := range calls() {
			for _, a := range append(fine, l) {
				got, e := f.of(a, l)
				wantError(t, fmt.Sprint(f.name, a, l), got, e, api.ErrArg)
				got, e = f.of(l, a)
				wantError(t, fmt.Sprint(f.name, l, a), got, e, api.ErrArg)
			}
		}
	}
}

func TestNot(t *testing.T) {
	for _, c := range []struct{ a, want []api.Span }{
		{spans(0, 9, 20, 29), spans(10, 19, 30, api.MaxWord)},
		{nil, spans(0, api.MaxWord)},
		{spans(0, api.MaxWord), nil},
		{spans(0, 0), spans(1, api.MaxWord)},
		{spans(api.MaxWord, api.MaxWord), spans(0, api.MaxWord-1)},
		{spans(1, api.MaxWord-1), spans(0, 0, api.MaxWord, api.MaxWord)},
		{spans(0, 0, 2, 2, 4, api.MaxWord), spans(1, 1, 3, 3)},
	} {
		got, e := span.Not(c.a)
		wantSet(t, fmt.Sprint("Not", c.a), got, e, c.want)
		got, e = span.Not(c.want)
		wantSet(t, fmt.Sprint("Not", c.want), got, e, c.a)
	}
	if got, _ := span.Not(nil); span.Size(got) != 4294967296 {
		t.Errorf("Size of all: %d", span.Size(got))
	}
	for _, l := range wrongLists() {
		got, e := span.Not(l)
		wantError(t, fmt.Sprint("Not", l), got, e, api.ErrArg)
	}
}

func TestSetsNumberByNumber(t *testing.T) {
	r := rand.New(rand.NewSource(5))
	for i := range 3000 {
		from := windows()[i%3]
		a, b := randomSet(r, from), randomSet(r, from)
		for _, f := range calls() {
			var marks [window]bool
			for n := range marks {
				marks[n] = f.has(covers(a, from+n), covers(b, from+n))
			}
			got, e := f.of(a, b)
			wantSet(t, fmt.Sprint(f.name, a, b), got, e, setOf(from, marks))
		}
		got, e := span.Not(a)
		if e != api.OK || !span.Right(got) || span.Size(got)+span.Size(a) != 1<<32 {
			t.Fatalf("Not%v: %v, error %d", a, got, e)
		}
		for _, n := range []int{0, 1, 1 << 30, api.MaxWord - 1, api.MaxWord} {
			if covers(got, n) == covers(a, n) {
				t.Fatalf("Not%v: %v: wrong of %d", a, got, n)
			}
		}
		for n := from; n < from+window; n++ {
			if covers(got, n) == covers(a, n) {
				t.Fatalf("Not%v: %v: wrong of %d", a, got, n)
			}
		}
	}
}

// The stage's theorem, of sets that lie over all numbers.
func TestLaws(t *testing.T) {
	r := rand.New(rand.NewSource(6))
	wide := func() []api.Span {
		var l []api.Span
		for range r.Intn(9) {
			lo := r.Intn(1 << 32)
			l = append(l, api.Span{Lo: lo, Hi: min(api.MaxWord, lo+r.Intn(1<<uint(1+r.Intn(32))))})
		}
		a, _ := span.Make(l)
		return a
	}
	must := func(a []api.Span, e api.Errno) []api.Span {
		if e != api.OK || !span.Right(a) {
			t.Fatalf("%v, error %d", a, e)
		}
		return a
	}
	for range 3000 {
		a, b := wide(), wide()
		union, meet, less := must(span.Union(a, b)), must(span.Meet(a, b)), must(span.Less(a, b))
		if span.Size(union)+span.Size(meet) != span.Size(a)+span.Size(b) {
			t.Fatalf("sizes of %v and %v do not add up", a, b)
		}
		if len(must(span.Meet(less, meet))) != 0 || !slices.Equal(must(span.Union(less, meet)), a) {
			t.Fatalf("Less and Meet of %v and %v are not apart, or not together the first one", a, b)
		}
		not := must(span.Not(a))
		if !slices.Equal(must(span.Not(not)), a) || len(must(span.Meet(a, not))) != 0 {
			t.Fatalf("Not of Not of %v", a)
		}
		if !slices.Equal(must(span.Less(b, a)), must(span.Meet(b, not))) {
			t.Fatalf("Less of %v and %v", b, a)
		}
		if !slices.Equal(union, must(span.Make(append(slices.Clone(b), a...)))) {
			t.Fatalf("Union of %v and %v", a, b)
		}
	}
}

package span_test

import (
	"fmt"
	"math/rand"
	"slices"
	"testing"

	"lychgate/api"
	"lychgate/span"
)

func part(lo, hi int, in ...int) api.Part {
	return api.Part{Span: api.Span{Lo: lo, Hi: hi}, In: in}
}

func sameParts(a, b []api.Part) bool {
	return slices.EqualFunc(a, b, func(p, q api.Part) bool {
		return p.Span == q.Span && slices.Equal(p.In, q.In)
	})
}

func TestParts(t *testing.T) {
	a, b := spans(0, 9, 20, 29), spans(5, 24)
	all := spans(0, api.MaxWord)
	for _, c := range []struct {
		l    [][]api.Span
		want []api.Part
	}{
		{[][]api.Span{a, b}, []api.Part{part(0, 4, 0), part(5, 9, 0, 1), part(10, 19, 1), part(20, 24, 0, 1), part(25, 29, 0), part(30, api.MaxWord)}},
		{nil, []api.Part{part(0, api.MaxWord)}},
		{[][]api.Span{}, []api.Part{part(0, api.MaxWord)}},
		{[][]api.Span{nil}, []api.Part{part(0, api.MaxWord)}},
		{[][]api.Span{a, a}, []api.Part{part(0, 9, 0, 1), part(10, 19), part(20, 29, 0, 1), part(30, api.MaxWord)}},
		{[][]api.Span{all}, []api.Part{part(0, api.MaxWord, 0)}},
		{[][]api.Span{nil, all, nil, all}, []api.Part{part(0, api.MaxWord, 1, 3)}},
		{[][]api.Span{spans(0, 0)}, []api.Part{part(0, 0, 0), part(1, api.MaxWord)}},
		{[][]api.Span{spans(api.MaxWord, api.MaxWord)}, []api.Part{part(0, api.MaxWord-1), part(api.MaxWord, api.MaxWord, 0)}},
		// where one set ends and another one begins, no part lies between
		{[][]api.Span{spans(3, 5), spans(6, 9)}, []api.Part{part(0, 2), part(3, 5, 0), part(6, 9, 1), part(10, api.MaxWord)}},
		{[][]api.Span{spans(6, 9), spans(3, 5)}, []api.Part{part(0, 2), part(3, 5, 1), part(6, 9, 0), part(10, api.MaxWord)}},
		{[][]api.Span{spans(0, 4), spans(0, 4, 6, 6), spans(5, 5)}, []api.Part{part(0, 4, 0, 1), part(5, 5, 2), part(6, 6, 1), part(7, api.MaxWord)}},
	} {
		got, e := span.Parts(c.l)
		if e != api.OK || !sameParts(got, c.want) {
			t.Errorf("Parts%v: %v, error %d; want %v", c.l, got, e, c.want)
		}
	}
}

func TestPartsRefuses(t *testing.T) {
	refuse := func(what string, l [][]api.Span) {
		t.Helper()
		if got, e := span.Parts(l); e != api.ErrArg || len(got) != 0 {
			t.Errorf("%s: %v, error %d", what, got, e)
		}
	}
	for _, l := range wrongLists() {
		refuse(fmt.Sprint(l), [][]api.Span{l})
		refuse(fmt.Sprint(l), [][]api.Span{l, spans(0, 4)})
		refuse(fmt.Sprint(l), [][]api.Span{spans(0, 4), nil, l})
	}
	refuse("129 lists", make([][]api.Span, 129))
	refuse("1000 lists", make([][]api.Span, 1000))
}

func TestPartsOfAsManySetsAsMayBe(t *testing.T) {
	l := make([][]api.Span, api.MaxSets)
	if got, e := span.Parts(l); e != api.OK || !sameParts(got, []api.Part{part(0, api.MaxWord)}) {
		t.Errorf("128 empty sets: %v, error %d", got, e)
	}
	// the set at place i has the numbers from i on
	var want []api.Part
	var in []int
	for i := range l {
		l[i] = spans(i, api.MaxWord)
		in = append(in, i)
		want = append(want, part(i, i, slices.Clone(in)...))
	}
	want[len(want)-1].Span.Hi = api.MaxWord
	if got, e := span.Parts(l); e != api.OK || !sameParts(got, want) {
		t.Errorf("128 sets within one another: %v, error %d", got, e)
	}
	l[127] = spans(1, 0)
	if got, e := span.Parts(l); e != api.ErrArg || len(got) != 0 {
		t.Errorf("the last one is no set: %v, error %d", got, e)
	}
}

// partsOf is what Parts must answer of sets that lie in one window, number by number.
func partsOf(l [][]api.Span, from int) []api.Part {
	var out []api.Part
	for n := max(0, from-1); n <= min(api.MaxWord, from+window); n++ {
		p := part(n, n)
		for i, a := range l {
			if covers(a, n) {
				p.In = append(p.In, i)
			}
		}
		if last := len(out) - 1; last >= 0 && slices.Equal(out[last].In, p.In) {
			out[last].Span.Hi = n
		} else {
			out = append(out, p)
		}
	}
	out[0].Span.Lo = 0
	out[len(out)-1].Span.Hi = api.MaxWord
	return out
}

func TestPartsNumberByNumber(t *testing.T) {
	r := rand.New(rand.NewSource(7))
	for i := range 2000 {
		from := windows()[i%3]
		most := 6
		if i%50 == 0 {
			most = api.MaxSets
		}
		l := make([][]api.Span, r.Intn(most+1))
		for j := range l {
			l[j] = randomSet(r, from)
		}
		got, e := span.Parts(l)
		if e != api.OK || !sameParts(got, partsOf(l, from)) {
			t.Fatalf("Parts%v: %v, error %d; want %v", l, got, e, partsOf(l, from))
		}
		for j := range l {
			var of []api.Span
			for _, p := range got {
				if slices.Contains(p.In, j) {
					of = append(of, p.Span)
				}
			}
			set, e := span.Make(of)
			wantSet(t, fmt.Sprint("the parts in ", l[j]), set, e, l[j])
		}
	}
}

func TestManySpansEnd(t *testing.T) {
	var a, b []api.Span
	for i := range 200000 {
		a = append(a, api.Span{Lo: 4 * i, Hi: 4*i + 1})
		b = append(b, api.Span{Lo: 4*i + 2, Hi: 4*i + 3})
	}
	got, e := span.Union(a, b)
	wantSet(t, "Union of two combs", got, e, spans(0, 799999))
	l := make([][]api.Span, api.MaxSets)
	l[0], l[127] = a, b
	parts, e := span.Parts(l)
	if e != api.OK || len(parts) != 400001 {
		t.Errorf("Parts of two combs: %d, error %d", len(parts), e)
	}
}

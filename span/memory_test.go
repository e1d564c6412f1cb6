package span_test

import (
	"math/rand"
	"slices"
	"sync"
	"testing"

	"lychgate/api"
	"lychgate/span"
)

// ones are the calls of one list that answer a list.
func ones() map[string]func([]api.Span) ([]api.Span, api.Errno) {
	return map[string]func([]api.Span) ([]api.Span, api.Errno){
		"Make":           span.Make,
		"Not":            span.Not,
		"Union, nothing": func(a []api.Span) ([]api.Span, api.Errno) { return span.Union(a, nil) },
		"nothing, Union": func(a []api.Span) ([]api.Span, api.Errno) { return span.Union(nil, a) },
		"Union, itself":  func(a []api.Span) ([]api.Span, api.Errno) { return span.Union(a, a) },
		"Meet, itself":   func(a []api.Span) ([]api.Span, api.Errno) { return span.Meet(a, a) },
		"Meet, all":      func(a []api.Span) ([]api.Span, api.Errno) { return span.Meet(spans(0, api.MaxWord), a) },
		"Less, nothing":  func(a []api.Span) ([]api.Span, api.Errno) { return span.Less(a, nil) },
		"Less, itself":   func(a []api.Span) ([]api.Span, api.Errno) { return span.Less(a, a) },
	}
}

func TestListsAreNotWrittenNorKept(t *testing.T) {
	lists := append(wrongLists(), nil, spans(3, 5, 7, 9), spans(7, 9, 3, 4, 5, 5, 9, 20), spans(0, api.MaxWord))
	for name, f := range ones() {
		for _, l := range lists {
			in := roomy(l)
			got, e := f(in)
			if !untouched(in, l) {
				t.Errorf("%s wrote into %v", name, l)
			}
			want := slices.Clone(got)
			scribble(in)
			if !slices.Equal(got, want) {
				t.Errorf("%s of %v shares with what came in", name, l)
			}
			scribble(got)
			if again, e2 := f(l); e2 != e || !slices.Equal(again, want) {
				t.Errorf("%s of %v: %v, then %v", name, l, want, again)
			}
		}
	}
}

func TestAnswersWriteNothingThatCameIn(t *testing.T) {
	for name, f := range ones() {
		in := roomy(spans(3, 5, 7, 9))
		got, _ := f(in)
		scribble(got)
		if !untouched(in, spans(3, 5, 7, 9)) {
			t.Errorf("%s answers memory that came in", name)
		}
	}
}

func TestPartsAreNewMemory(t *testing.T) {
	a, b := spans(0, 9, 20, 29), spans(5, 24)
	in := make([][]api.Span, 2, 3)
	in[0], in[1] = roomy(a), roomy(b)
	spare := spans(-3, -4)
	in[:3][2] = spare
	got, _ := span.Parts(in)
	want, _ := span.Parts([][]api.Span{a, b})
	if len(in) != 2 || !untouched(in[0], a) || !untouched(in[1], b) || !slices.Equal(in[:3][2], spare) {
		t.Error("Parts wrote into what came in")
	}
	scribble(in[0])
	scribble(in[1])
	in[0], in[1] = nil, nil
	if !sameParts(got, want) {
		t.Error("Parts shares with what came in")
	}
	for i := range got {
		whole := got[i].In[:cap(got[i].In)]
		for j := range whole {
			whole[j] = -9
		}
		for k := i + 1; k < len(got); k++ {
			if !slices.Equal(got[k].In, want[k].In) {
				t.Errorf("parts %d and %d share", i, k)
			}
		}
	}
	if again, _ := span.Parts([][]api.Span{a, b}); !sameParts(again, want) {
		t.Error("Parts kept what it answered")
	}
}

func TestCallsDoNotDisturbOneAnother(t *testing.T) {
	a, b := spans(0, 9, 20, 29), spans(5, 24)
	var wg sync.WaitGroup
	for seed := range 8 {
		wg.Go(func() {
			r := rand.New(rand.NewSource(int64(seed)))
			for range 200 {
				x := randomSet(r, 0)
				union, _ := span.Union(x, b)
				less, _ := span.Less(union, b)
				want, _ := span.Less(x, b)
				parts, _ := span.Parts([][]api.Span{a, b, x})
				if !slices.Equal(less, want) || parts[len(parts)-1].Span.Hi != api.MaxWord {
					t.Error("calls side by side disturb one another")
				}
			}
		})
	}
	wg.Wait()
}

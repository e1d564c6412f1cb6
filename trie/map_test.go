package trie_test

import (
	"math"
	"math/rand"
	"slices"
	"testing"

	"lychgate/api"
)

// two has the rows of the chapter's example.
func two() []api.Row {
	return []api.Row{row(0, 1, 0), row(1<<31, 1, 5)}
}

func TestExampleOfMap(t *testing.T) {
	x := makeTrie(t, two())
	for _, l := range [][]int{{3}, {65536, 0, 0, 0, 0, 1}} {
		if e := x.Map(l); e != api.ErrArg {
			t.Errorf("Map(%v): error %d; want ErrArg", l, e)
		}
		wantRows(t, x, two()...)
	}
	if e := x.Map([]int{1, 0, 0, 0, 0, 1}); e != api.OK {
		t.Errorf("Map: error %d", e)
	}
	wantRows(t, x, row(0, 0, 1))
}

func TestMapRefusesAndChangesNothing(t *testing.T) {
	x := makeTrie(t, two())
	lists := [][]int{nil, {}, {0}, {1, 2, 3, 4, 5}}
	for _, n := range wrongLabels() {
		lists = append(lists, []int{n, 0, 0, 0, 0, 0}, []int{0, 0, 0, 0, 0, n}, []int{n, n, n, n, n, n}, []int{n})
	}
	for _, l := range lists {
		if e := x.Map(l); e != api.ErrArg {
			t.Errorf("Map(%v): error %d; want ErrArg", l, e)
		}
		wantRows(t, x, two()...)
	}
	whole := newTrie(t, 65535)
	if e := whole.Map(make([]int, 65535)); e != api.ErrArg {
		t.Errorf("Map by one label too few: error %d; want ErrArg", e)
	}
	wantRows(t, whole, row(0, 0, 65535))
	if e := whole.Map(make([]int, 65536)); e != api.OK {
		t.Errorf("Map by just as many labels: error %d", e)
	}
	wantRows(t, whole, row(0, 0, 0))
}

func TestPlacesThatNoAddressHasDoNotMatter(t *testing.T) {
	x := makeTrie(t, two())
	if e := x.Map([]int{65535, -1, 65536, math.MinInt, math.MaxInt, 0, -1, 70000}); e != api.OK {
		t.Errorf("Map: error %d", e)
	}
	wantRows(t, x, row(0, 1, 65535), row(1<<31, 1, 0))

	gone := makeTrie(t, two()) // a label that no address has any more does not matter either
	put(t, gone, row(1<<31, 1, 1))
	if e := gone.Map([]int{4, 3}); e != api.OK {
		t.Errorf("Map: error %d", e)
	}
	wantRows(t, gone, row(0, 1, 4), row(1<<31, 1, 3))
}

// All labels change at one time: what one became is not changed once more.
func TestMapSwapsLabels(t *testing.T) {
	x := makeTrie(t, []api.Row{row(0, 1, 0), row(1<<31, 2, 1), row(3<<30, 2, 2)})
	if e := x.Map([]int{1, 2, 0}); e != api.OK {
		t.Errorf("Map: error %d", e)
	}
	wantRows(t, x, row(0, 1, 1), row(1<<31, 2, 2), row(3<<30, 2, 0))
}

func TestMapJoinsHalvesOfHalves(t *testing.T) {
	x := newTrie(t, 0)
	for i := range 256 {
		put(t, x, row(i<<24, 8, i))
	}
	quarters := make([]int, 256)
	for i := range quarters {
		quarters[i] = i / 64
	}
	if e := x.Map(quarters); e != api.OK {
		t.Errorf("Map: error %d", e)
	}
	wantRows(t, x, row(0, 2, 0), row(1<<30, 2, 1), row(2<<30, 2, 2), row(3<<30, 2, 3))
	if e := x.Map([]int{6, 7, 7, 6}); e != api.OK {
		t.Errorf("Map: error %d", e)
	}
	wantRows(t, x, row(0, 2, 6), row(1<<30, 2, 7), row(2<<30, 2, 7), row(3<<30, 2, 6))
}

// In random tries Map refuses just the lists that the words refuse.
func TestRandomMaps(t *testing.T) {
	r := rand.New(rand.NewSource(43))
	for range 3000 {
		x, h := randomTrie(t, r)
		before := x.Rows()
		labels := make([]int, r.Intn(6))
		for i := range labels {
			labels[i] = []int{0, 1, 2, 65535, -1, 65536}[r.Intn(6)]
		}
		want := api.OK
		for _, row := range before {
			if row.Label >= len(labels) || labels[row.Label] < 0 || labels[row.Label] > api.MaxLabel {
				want = api.ErrArg
			}
		}
		if e := x.Map(labels); e != want {
			t.Fatalf("Map(%v) of %v: error %d; want %d", labels, before, e, want)
		}
		if want == api.OK {
			h.steps = append(h.steps, step{labels: labels})
		} else if !slices.Equal(x.Rows(), before) {
			t.Fatalf("Map(%v), which failed, made %v of %v", labels, x.Rows(), before)
		}
		wantHistory(t, x, h)
	}
}

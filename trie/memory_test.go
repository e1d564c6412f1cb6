package trie_test

import (
	"math/rand"
	"slices"
	"strconv"
	"testing"

	"lychgate/api"
)

func TestMakeNeitherWritesNorKeeps(t *testing.T) {
	want := []api.Row{row(0, 1, 7), row(1<<31, 2, 1), row(3<<30, 2, 7)}
	spare := append(slices.Clone(want), row(-1, -1, -1))
	x := makeTrie(t, spare[:3])
	if !slices.Equal(spare, append(slices.Clone(want), row(-1, -1, -1))) {
		t.Errorf("Make wrote into what came in: %v", spare)
	}
	clear(spare)
	wantRows(t, x, want...)
	put(t, x, row(0, 0, 2))
	if !slices.Equal(spare, make([]api.Row, 4)) {
		t.Errorf("Put wrote into what Make was given: %v", spare)
	}
}

func TestMapNeitherWritesNorKeeps(t *testing.T) {
	x := makeTrie(t, []api.Row{row(0, 1, 0), row(1<<31, 1, 1)})
	labels := []int{3, 4, 5}
	if e := x.Map(labels[:2]); e != api.OK {
		t.Fatalf("Map: error %d", e)
	}
	if !slices.Equal(labels, []int{3, 4, 5}) {
		t.Errorf("Map wrote into what came in: %v", labels)
	}
	clear(labels)
	wantRows(t, x, row(0, 1, 3), row(1<<31, 1, 4))
}

func TestRowsAreNewMemory(t *testing.T) {
	x := newTrie(t, 0)
	put(t, x, row(167772161, 32, 7))
	first, second := x.Rows(), x.Rows()
	want := slices.Clone(first)
	clear(first[:cap(first)])
	if !slices.Equal(second, want) {
		t.Error("two answers of Rows share memory")
	}
	wantRows(t, x, want...)
	put(t, x, row(0, 0, 1))
	if !slices.Equal(second, want) {
		t.Error("Put wrote into an answer of Rows")
	}
}

func TestTriesKnowNothingOfOneAnother(t *testing.T) {
	x := newTrie(t, 0)
	put(t, x, row(1<<31, 1, 5))
	rows := x.Rows()
	y, z := makeTrie(t, rows), makeTrie(t, rows)
	put(t, x, row(0, 32, 9))
	if e := y.Map([]int{1, 0, 0, 0, 0, 2}); e != api.OK {
		t.Fatalf("Map: error %d", e)
	}
	wantRows(t, z, rows...)
	wantRows(t, y, row(0, 1, 1), row(1<<31, 1, 2))
	wantLabel(t, x, 0, 9)
	wantLabel(t, y, 0, 1)
}

func TestCallsDoNotDisturbOneAnother(t *testing.T) {
	for seed := range 8 {
		t.Run(strconv.Itoa(seed), func(t *testing.T) {
			t.Parallel()
			r := rand.New(rand.NewSource(int64(seed)))
			for range 100 {
				x, h := randomTrie(t, r)
				wantHistory(t, x, h)
				wantRows(t, makeTrie(t, x.Rows()), x.Rows()...)
			}
		})
	}
}

package order_test

import (
	"math/rand"
	"slices"
	"testing"
)

func wantBestWords(t *testing.T, w *words, roots []int, most int) found {
	t.Helper()
	a := arenaOf(t, w)
	want := w.best(roots, most)
	wantBest(t, a, roots, most, want.by...)
	wantWords(t, a, w, len(w.nodes))
	return want
}

func TestBestOfPairs(t *testing.T) {
	w, f := pairs()
	a := arenaOf(t, w)
	// 6 nodes are the fewest; if that is too many, all places count the same.
	for _, most := range []int{6, 7, 8, 9, 10, 8192} {
		wantBest(t, a, []int{f}, most, 0, 2, 1, 3)
	}
	for most := range 6 {
		wantBest(t, a, []int{f}, most, 0, 1, 2, 3)
	}
	if l := w.numbers([]int{f}, []int{0, 1, 2, 3}, 0, 9); !slices.Equal(l, []int{9, 9, 9, 9}) {
		t.Errorf("the places of 0: %v", l)
	}
	wantWords(t, a, w, 9)
}

func TestBestOfFalseAndTrue(t *testing.T) {
	w, _ := pairs()
	for _, roots := range [][]int{nil, {}, {0}, {1}, {1, 0, 1}} {
		for _, most := range []int{0, 1, 8192} {
			wantBest(t, arenaOf(t, w), roots, most, 0, 1, 2, 3)
			wantBest(t, arenaOf(t, &words{sizes: []int{1}}), roots, most, 0)
			wantBest(t, arenaOf(t, &words{sizes: []int{256, 1, 256}}), roots, most, 0, 1, 2)
		}
	}
}

func TestBestOfTheSameRoots(t *testing.T) {
	w, f := pairs()
	for _, roots := range [][]int{{f}, {f, f}, {0, f, 1, f, f}} {
		wantBest(t, arenaOf(t, w), roots, 6, 0, 2, 1, 3)
		wantBest(t, arenaOf(t, w), roots, 5, 0, 1, 2, 3)
	}
}

// What the roots do not have counts for nothing.
func TestBestOfSomeRoots(t *testing.T) {
	w, f := pairs()
	g := w.from(nil, func(p []int) bool { return p[0] == p[1] && p[2] == p[3] })
	for _, most := range []int{0, 5, 6, 7, 8, 9, 14, 15, 16, 8192} {
		for _, roots := range [][]int{{f}, {g}, {f, g}, {g, f}, {2}, {f - 1, g - 1}} {
			wantBestWords(t, w, roots, most)
		}
	}
}

// Each way of the search is gone: no room at a place between, several places that are as good, none that is better.
func TestBestAtRandom(t *testing.T) {
	r := rand.New(rand.NewSource(5))
	moved, tied, stayed, overMany := 0, 0, 0, 0
	for range 4000 {
		w := randomWords(r, 5, 1+r.Intn(2))
		roots := append(randomRoots(r, w), len(w.nodes)+1)
		ahead, _ := w.rebuilt(roots, upTo(len(w.sizes)))
		most := []int{8192, len(ahead.nodes), r.Intn(len(ahead.nodes) + 2), max(0, len(ahead.nodes)-1-r.Intn(4))}[r.Intn(4)]
		got := wantBestWords(t, w, roots, most)
		moved += got.moved
		tied += one(got.tied)
		stayed += one(got.stayed)
		overMany += one(got.overMany)
	}
	if moved < 300 || tied < 100 || stayed < 100 || overMany < 20 {
		t.Errorf("%d levels moved; tied %d, stayed %d, over too many %d", moved, tied, stayed, overMany)
	}
}

func one(is bool) int {
	if is {
		return 1
	}
	return 0
}

// More nodes than most at first: any order that has not is better.
func TestBestFromTooMany(t *testing.T) {
	r := rand.New(rand.NewSource(6))
	left := 0
	for range 400 {
		w := randomWords(r, 5, 1)
		roots := []int{len(w.nodes) + 1}
		full, _ := w.rebuilt(roots, w.best(roots, 8192).by)
		for _, most := range []int{len(full.nodes), max(0, len(full.nodes)-1), len(full.nodes) + 1} {
			ahead, _ := w.rebuilt(roots, upTo(len(w.sizes)))
			if got := wantBestWords(t, w, roots, most); got.moved > 0 && len(ahead.nodes) > most {
				left++
			}
		}
	}
	if left < 30 {
		t.Errorf("%d times from too many nodes", left)
	}
}

package order_test

import (
	"slices"
	"testing"

	"lychgate/api"
	"lychgate/arena"
	"lychgate/dd"
)

// equalPairs is true where each even level has the class of the level behind it.
func equalPairs(t *testing.T, a *arena.Arena) int {
	t.Helper()
	sizes := a.Sizes()
	f := 1
	for level := len(sizes) - 2; level >= 0; level -= 2 {
		top := make([]int, sizes[level])
		for class := range top {
			kids := make([]int, sizes[level+1])
			kids[class] = f
			top[class] = mustMake(t, a, level+1, kids...)
		}
		f = mustMake(t, a, level, top...)
	}
	return f
}

// sumOf is true of points whose classes make up a sum with that rest; each order has the same nodes.
func sumOf(t *testing.T, a *arena.Arena, by, rest int) int {
	t.Helper()
	sizes := a.Sizes()
	next := make([]int, by)
	next[rest] = 1
	for level := len(sizes) - 1; level > 0; level-- {
		now := make([]int, by)
		for sum := range by {
			kids := make([]int, sizes[level])
			for class := range kids {
				kids[class] = next[(sum+class)%by]
			}
			now[sum] = mustMake(t, a, level, kids...)
		}
		next = now
	}
	kids := make([]int, sizes[0])
	for class := range kids {
		kids[class] = next[class%by]
	}
	return mustMake(t, a, 0, kids...)
}

func widest(t *testing.T) *arena.Arena {
	t.Helper()
	return newArena(t, api.MaxNodes, slices.Repeat([]int{256}, 12)...)
}

// There are 256^12 points: nothing comes to its end here that goes through them.
func TestGreatSums(t *testing.T) {
	a := widest(t)
	f := sumOf(t, a, 23, 5)
	plain, l := rebuild(t, a, []int{f}, upTo(12), 8192)
	if plain.Len() != 1+11*23 {
		t.Fatalf("%d nodes", plain.Len())
	}
	for _, by := range [][]int{reversed(12), {6, 7, 8, 9, 10, 11, 0, 1, 2, 3, 4, 5}} {
		b, m := rebuild(t, a, []int{f}, by, 1+11*23)
		wantWords(t, b, &words{plain.Sizes(), allNodes(t, plain)}, 1+11*23)
		if !slices.Equal(l, m) {
			t.Errorf("%v: %v; want %v", by, m, l)
		}
		wantNotRebuilt(t, a, api.ErrNodeLimit, []int{f}, by, 11*23)
	}
	wantBest(t, a, []int{f}, 8192, upTo(12)...)
}

func TestGreatPairs(t *testing.T) {
	a := newArena(t, api.MaxNodes, slices.Repeat([]int{128}, 12)...)
	f := equalPairs(t, a)
	if a.Len() != 6*129 {
		t.Fatalf("%d nodes", a.Len())
	}
	// On the way from one order to the other some have many more nodes than may be.
	for _, by := range [][]int{reversed(12), {10, 11, 8, 9, 6, 7, 4, 5, 2, 3, 0, 1}, {3, 2, 0, 1, 10, 11, 5, 4, 6, 7, 9, 8}} {
		b, l := rebuild(t, a, []int{f}, by, 6*129)
		if b.Len() != 6*129 || !slices.Equal(l, []int{6*129 + 1}) {
			t.Errorf("%v: %d nodes, %v", by, b.Len(), l)
		}
		wantSays(t, b, l[0], true, 7, 7, 0, 0, 127, 127, 64, 64, 9, 9, 1, 1)
		wantSays(t, b, l[0], false, 7, 7, 0, 0, 127, 126, 64, 64, 9, 9, 1, 1)
		wantNotRebuilt(t, a, api.ErrNodeLimit, []int{f}, by, 6*129-1)
	}
	wantBest(t, a, []int{f}, 8192, upTo(12)...)
}

// On the way a layer has 2^17 functions, and rows that lead to the second half of it are else like those that lead to the first.
func TestGreatWay(t *testing.T) {
	a := newArena(t, api.MaxNodes, 256, 256, 32, 32, 16, 16)
	f := equalPairs(t, a)
	b, l := rebuild(t, a, []int{f}, []int{2, 4, 3, 5, 0, 1}, 8192)
	if want := 1 + 32 + 32*16 + 16 + 1 + 256; b.Len() != want {
		t.Fatalf("%d nodes; want %d", b.Len(), want)
	}
	wantSays(t, b, l[0], true, 31, 15, 31, 15, 255, 255)
	wantSays(t, b, l[0], false, 31, 15, 15, 15, 255, 255)
	back, m := rebuild(t, b, l, []int{4, 5, 0, 2, 1, 3}, 8192)
	plain, n := rebuild(t, a, []int{f}, upTo(6), 8192)
	wantSame(t, back, m, plain, n)
}

// In these orders the pairs of the widest arena have more than 256^6 nodes, and those of a narrow one more than 16^6.
func TestGreatPairsWithoutRoom(t *testing.T) {
	a := widest(t)
	f := equalPairs(t, a)
	wantNotRebuilt(t, a, api.ErrNodeLimit, []int{f}, []int{0, 2, 4, 6, 8, 10, 1, 3, 5, 7, 9, 11}, 8192)
	wantBest(t, a, []int{f}, 8192, upTo(12)...)
	a = newArena(t, api.MaxNodes, slices.Repeat([]int{16}, 12)...)
	f = equalPairs(t, a)
	wantNotRebuilt(t, a, api.ErrNodeLimit, []int{f}, []int{10, 8, 6, 4, 2, 0, 1, 3, 5, 7, 9, 11}, 8192)
	wantNotRebuilt(t, a, api.ErrNodeLimit, []int{f}, []int{11, 1, 9, 3, 7, 5, 10, 2, 8, 4, 6, 0}, 8192)
}

func wantSays(t *testing.T, a *arena.Arena, f int, want bool, point ...int) {
	t.Helper()
	if is, e := dd.Eval(a, f, point); is != want || e != api.OK {
		t.Errorf("%v: %v, error %d; want %v", point, is, e, want)
	}
}

// From 1681 nodes to 82, and back.
func TestGreatSearch(t *testing.T) {
	a := newArena(t, api.MaxNodes, 40, 40, 40, 40)
	f := equalPairs(t, a)
	b, l := rebuild(t, a, []int{f}, []int{0, 2, 1, 3}, 8192)
	if b.Len() != 1+40+40*40+40 {
		t.Fatalf("%d nodes", b.Len())
	}
	for _, most := range []int{8192, 1681, 1680, 82} {
		wantBest(t, b, l, most, 0, 2, 1, 3)
	}
	wantBest(t, b, l, 81, 0, 1, 2, 3)
	c, m := rebuild(t, b, l, []int{0, 2, 1, 3}, 82)
	plain, n := rebuild(t, a, []int{f}, []int{0, 1, 2, 3}, 82)
	wantSame(t, c, m, plain, n)
}

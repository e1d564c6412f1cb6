package order_test

import (
	"math/rand"
	"runtime"
	"slices"
	"strconv"
	"testing"

	"lychgate/api"
	"lychgate/arena"
	"lychgate/order"
)

func TestListsAreNotWrittenInto(t *testing.T) {
	w, f := pairs()
	a := arenaOf(t, w)
	roots, by := []int{f, 0, 4, f, -7, -7}, []int{3, 0, 2, 1, -7, -7}
	for _, most := range []int{100, 3} {
		order.Rebuild(a, roots[:4], by[:4], most)
		order.Best(a, roots[:4], most)
	}
	if !slices.Equal(roots, []int{f, 0, 4, f, -7, -7}) || !slices.Equal(by, []int{3, 0, 2, 1, -7, -7}) {
		t.Errorf("a call wrote into what came in: %v, %v", roots, by)
	}
}

func TestListsAreNotKept(t *testing.T) {
	w, f := pairs()
	roots, by := []int{f, 4}, []int{3, 0, 2, 1}
	b, l := rebuild(t, arenaOf(t, w), roots, by, 100)
	want, now := w.rebuilt(roots, by)
	clear(roots)
	clear(by)
	if !slices.Equal(l, now) {
		t.Errorf("%v; want %v", l, now)
	}
	wantWords(t, b, want, 100)
}

func TestAnswersAreNewMemory(t *testing.T) {
	w, f := pairs()
	a := arenaOf(t, w)
	roots, by := []int{f, 1, 0}, []int{0, 2, 1, 3}
	b, l := rebuild(t, a, roots, by, 100)
	c, m := rebuild(t, a, roots, by, 100)
	clear(l[:cap(l)])
	if !slices.Equal(m, []int{7, 1, 0}) || !slices.Equal(roots, []int{f, 1, 0}) {
		t.Errorf("roots share memory: %v, %v", m, roots)
	}
	first, second := best(t, a, roots, 100), best(t, a, roots, 100)
	clear(first[:cap(first)])
	if !slices.Equal(second, by) {
		t.Errorf("orders share memory: %v", second)
	}
	wantBest(t, a, roots, 100, 0, 2, 1, 3)
	// Each arena is one of its own.
	want, _ := w.rebuilt(roots, by)
	mustMake(t, b, 3, 1, 0)
	mustMake(t, b, 0, 0, 1)
	wantWords(t, c, want, 100)
	wantWords(t, a, w, 9)
	if e := a.Back(0); e != api.OK {
		t.Fatal(e)
	}
	wantWords(t, c, want, 100)
	if e := c.Back(0); e != api.OK || b.Len() != 7 {
		t.Errorf("error %d; %d nodes", e, b.Len())
	}
}

// Roots of false and true alone come out as they went in, but in a list of their own.
func TestEndsAreNewMemory(t *testing.T) {
	roots := []int{1, 0, 1}
	_, l := rebuild(t, newArena(t, 0, 2), roots, []int{0}, 0)
	clear(l)
	if !slices.Equal(roots, []int{1, 0, 1}) {
		t.Errorf("%v", roots)
	}
}

// An arena that comes out has room as it was told, and knows all its nodes.
func TestAnswerIsAnArena(t *testing.T) {
	w, f := pairs()
	b, _ := rebuild(t, arenaOf(t, w), []int{f}, []int{0, 2, 1, 3}, 7)
	for i, n := range allNodes(t, b) {
		if g := mustMake(t, b, n.Level, n.Kids...); g != i+2 {
			t.Errorf("%v: %d; want %d", n, g, i+2)
		}
	}
	if g := mustMake(t, b, 0, 0, 1); g != 8 {
		t.Errorf("one more: %d", g)
	}
	if _, e := b.Make(0, []int{1, 0}); e != api.ErrNodeLimit {
		t.Errorf("one too many: error %d", e)
	}
}

// Nothing is changed where there is no room, neither in the arena nor for the answer; and what was answered once is answered again.
func TestNothingIsChanged(t *testing.T) {
	w, f := pairs()
	a := arenaOf(t, w)
	want, _ := w.rebuilt([]int{f}, []int{0, 2, 1, 3})
	for range 3 {
		wantNotRebuilt(t, a, api.ErrNodeLimit, []int{f}, []int{1, 0, 3, 2}, 8)
		wantNotRebuilt(t, a, api.ErrNodeLimit, []int{f}, []int{0, 2, 1, 3}, 5)
		wantBest(t, a, []int{f}, 8, 0, 2, 1, 3)
		b, _ := rebuild(t, a, []int{f}, []int{0, 2, 1, 3}, 6)
		wantWords(t, b, want, 6)
		wantWords(t, a, w, 9)
	}
	if _, e := a.Make(0, []int{0, 1}); e != api.ErrNodeLimit {
		t.Errorf("there is room: error %d", e)
	}
}

func heapNow() uint64 {
	runtime.GC()
	var m runtime.MemStats
	runtime.ReadMemStats(&m)
	return m.HeapAlloc
}

func TestNothingIsKept(t *testing.T) {
	a := newArena(t, api.MaxNodes, slices.Repeat([]int{16}, 12)...)
	f := equalPairs(t, a)
	var now [2]uint64
	for i := range now {
		for range 3 {
			order.Rebuild(a, []int{f}, reversed(12), 8192)
			order.Rebuild(a, []int{f}, []int{0, 2, 4, 6, 8, 10, 1, 3, 5, 7, 9, 11}, 8192)
			order.Best(a, []int{f}, 8192)
		}
		now[i] = heapNow()
	}
	if now[1] > now[0]+1<<20 {
		t.Errorf("%d bytes, and then %d", now[0], now[1])
	}
	runtime.KeepAlive(a)
}

// Several at once may ask of one arena, since nothing is changed in it.
func TestCallsDoNotDisturbOneAnother(t *testing.T) {
	r := rand.New(rand.NewSource(7))
	w := randomWords(r, 6, 3)
	a := arenaOf(t, w)
	for seed := range 8 {
		t.Run(strconv.Itoa(seed), func(t *testing.T) {
			t.Parallel()
			r := rand.New(rand.NewSource(int64(seed)))
			for range 100 {
				wantAsked(t, a, w, randomRoots(r, w), r.Perm(len(w.sizes)))
				w := randomWords(r, 4, 2)
				wantAsked(t, arenaOf(t, w), w, randomRoots(r, w), r.Perm(len(w.sizes)))
			}
		})
	}
}

func wantAsked(t *testing.T, a *arena.Arena, w *words, roots, by []int) {
	t.Helper()
	b, l := rebuild(t, a, roots, by, 8192)
	want, now := w.rebuilt(roots, by)
	wantWords(t, b, want, 8192)
	if !slices.Equal(l, now) {
		t.Errorf("%v; want %v", l, now)
	}
	wantBest(t, a, roots, 8192, w.best(roots, 8192).by...)
}

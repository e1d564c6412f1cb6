package order_test

import (
	"math/rand"
	"slices"
	"testing"

	"lychgate/api"
	"lychgate/arena"
	"lychgate/dd"
)

// backOf is the order that leads back.
func backOf(by []int) []int {
	out := make([]int, len(by))
	for i, level := range by {
		out[level] = i
	}
	return out
}

func wantSame(t *testing.T, a *arena.Arena, roots []int, b *arena.Arena, others []int) {
	t.Helper()
	if !slices.Equal(roots, others) {
		t.Fatalf("roots: %v and %v", roots, others)
	}
	wantWords(t, a, &words{b.Sizes(), allNodes(t, b)}, b.Most())
}

// A root says of a point, put into the order, what the old one said of it.
func TestRebuildSaysTheSame(t *testing.T) {
	r := rand.New(rand.NewSource(8))
	for range 300 {
		w := randomWords(r, 5, 3)
		a := arenaOf(t, w)
		roots, by := randomRoots(r, w), r.Perm(len(w.sizes))
		b, l := rebuild(t, a, roots, by, 8192)
		for range 50 {
			old, now := make([]int, len(by)), make([]int, len(by))
			for level, size := range w.sizes {
				old[level] = r.Intn(size)
			}
			for i, level := range by {
				now[i] = old[level]
			}
			for i, f := range roots {
				want, e := dd.Eval(a, f, old)
				got, e2 := dd.Eval(b, l[i], now)
				if got != want || e != api.OK || e2 != api.OK {
					t.Fatalf("%v by %v: %v, error %d; want %v, error %d", old, by, got, e2, want, e)
				}
			}
		}
	}
}

func TestRebuildBack(t *testing.T) {
	r := rand.New(rand.NewSource(9))
	for range 1000 {
		w := randomWords(r, 6, 3)
		a := arenaOf(t, w)
		roots, by := randomRoots(r, w), r.Perm(len(w.sizes))
		there, l := rebuild(t, a, roots, by, 8192)
		back, m := rebuild(t, there, l, backOf(by), 8192)
		plain, n := rebuild(t, a, roots, upTo(len(by)), 8192)
		wantSame(t, back, m, plain, n)
		// And by two orders it is what it is by both at once.
		other := r.Perm(len(by))
		twice, m := rebuild(t, there, l, other, 8192)
		var both []int
		for _, place := range other {
			both = append(both, by[place])
		}
		once, n := rebuild(t, a, roots, both, 8192)
		wantSame(t, twice, m, once, n)
	}
}

// What else is in an arena, and by which numbers, is all one.
func TestHangsOnWhatIsSaidAlone(t *testing.T) {
	r := rand.New(rand.NewSource(10))
	for range 600 {
		w := randomWords(r, 5, 3)
		roots, by := randomRoots(r, w), r.Perm(len(w.sizes))
		other := &words{sizes: w.sizes}
		other.from(nil, randomFunction(r, w.sizes))
		moved := make([]int, len(roots))
		for _, i := range r.Perm(len(roots)) {
			moved[i] = other.from(nil, w.says(roots[i]))
		}
		a, b := arenaOf(t, w), arenaOf(t, other)
		c, l := rebuild(t, a, roots, by, 8192)
		d, m := rebuild(t, b, moved, by, 8192)
		wantSame(t, c, l, d, m)
		most := r.Intn(c.Len() + 3)
		wantBest(t, b, moved, most, best(t, a, roots, most)...)
	}
}

func TestBestIsNeverWorse(t *testing.T) {
	r := rand.New(rand.NewSource(11))
	better := 0
	for range 3000 {
		w := randomWords(r, 7, 1)
		a := arenaOf(t, w)
		roots := append(randomRoots(r, w), len(w.nodes)+1)
		plain, _ := rebuild(t, a, roots, upTo(len(w.sizes)), 8192)
		for _, most := range []int{r.Intn(plain.Len() + 1), plain.Len(), 8192} {
			b, _ := rebuild(t, a, roots, best(t, a, roots, most), 8192)
			if b.Len() > plain.Len() {
				t.Fatalf("%d nodes; %d by 0, 1, 2 and so on", b.Len(), plain.Len())
			}
			if b.Len() < plain.Len() {
				better++
			}
		}
	}
	if better < 200 {
		t.Errorf("%d times better", better)
	}
}

package arena_test

import (
	"math/rand"
	"runtime"
	"slices"
	"strconv"
	"testing"

	"lychgate/api"
)

func TestNewNeitherWritesNorKeeps(t *testing.T) {
	sizes := []int{2, 3, -1, -1}
	a := newArena(t, 8, sizes[:2]...)
	if !slices.Equal(sizes, []int{2, 3, -1, -1}) {
		t.Errorf("New wrote into what came in: %v", sizes)
	}
	sizes[0], sizes[1] = 3, 2
	wantMake(t, a, 2, 1, 0, 1, 1)
	wantMake(t, a, 3, 0, 2, 0)
	wantWords(t, a, &words{[]int{2, 3}, 8, []api.Node{{Level: 1, Kids: []int{0, 1, 1}}, {Level: 0, Kids: []int{2, 0}}}})
	if !slices.Equal(sizes, []int{3, 2, -1, -1}) {
		t.Errorf("a call wrote into what New was given: %v", sizes)
	}
}

func TestMakeNeitherWritesNorKeeps(t *testing.T) {
	a := newArena(t, 8, 2)
	kids := []int{0, 1, 7, 7}
	wantMake(t, a, 2, 0, kids[:2]...)
	if !slices.Equal(kids, []int{0, 1, 7, 7}) {
		t.Errorf("Make wrote into what came in: %v", kids)
	}
	kids[0], kids[1] = 1, 0
	wantNodes(t, a, api.Node{Level: 0, Kids: []int{0, 1}})
	wantMake(t, a, 3, 0, kids[:2]...)
	wantBack(t, a, 0)
	if !slices.Equal(kids, []int{1, 0, 7, 7}) {
		t.Errorf("a call wrote into what Make was given: %v", kids)
	}
}

func TestAnswersAreNewMemory(t *testing.T) {
	a := newArena(t, 8, 3, 3)
	wantMake(t, a, 2, 1, 0, 1, 1)
	wantMake(t, a, 3, 1, 1, 0, 1)
	first, second := a.Sizes(), a.Sizes()
	clear(first[:cap(first)])
	if !slices.Equal(second, []int{3, 3}) || !slices.Equal(a.Sizes(), []int{3, 3}) {
		t.Error("answers of Sizes share memory")
	}
	m, _ := a.Node(2)
	n, _ := a.Node(2)
	clear(m.Kids[:cap(m.Kids)])
	if !slices.Equal(n.Kids, []int{0, 1, 1}) {
		t.Error("two answers of Node share memory")
	}
	wantMake(t, a, 2, 1, 0, 1, 1)
	wantMake(t, a, 3, 1, 1, 0, 1)
	wantBack(t, a, 0)
	if !slices.Equal(n.Kids, []int{0, 1, 1}) {
		t.Error("Back wrote into an answer of Node")
	}
	wantMake(t, a, 2, 0, 1, 1, 0)
	if !slices.Equal(n.Kids, []int{0, 1, 1}) {
		t.Error("Make wrote into an answer of Node")
	}
}

func heapNow() uint64 {
	runtime.GC()
	var m runtime.MemStats
	runtime.ReadMemStats(&m)
	return m.HeapAlloc
}

// wideKids are unlike for each i up to 2^30.
func wideKids(i int) []int {
	out := make([]int, 256)
	for bit := range 30 {
		out[bit] = i >> bit & 1
	}
	out[255] = 1 - out[0]
	return out
}

// Nodes that are made and forgotten again and again need no more memory.
func TestBackAgainAndAgainKeepsNothing(t *testing.T) {
	a := newArena(t, 8192, 256)
	rounds := func(n int) uint64 {
		for i := range n {
			wantMake(t, a, 2, 0, wideKids(i)...)
			wantBack(t, a, 0)
		}
		return heapNow()
	}
	few := rounds(100)
	if many := rounds(20000); many > few+4<<20 {
		t.Errorf("%d bytes, and then %d", few, many)
	}
	runtime.KeepAlive(a)
}

// The kids of 8192 nodes are some 16 million bytes.
func TestBackOfManyKeepsNoKids(t *testing.T) {
	ahead := heapNow()
	a := newArena(t, 8192, 256)
	for i := range 8192 {
		wantMake(t, a, i+2, 0, wideKids(i)...)
	}
	if e := a.Back(0); e != api.OK {
		t.Fatal(e)
	}
	if behind := heapNow(); behind > ahead+4<<20 {
		t.Errorf("%d bytes, and then %d", ahead, behind)
	}
	runtime.KeepAlive(a)
}

func TestArenasKnowNothingOfOneAnother(t *testing.T) {
	a, b := newArena(t, 8, 2, 2), newArena(t, 8, 2, 2)
	wantMake(t, a, 2, 1, 0, 1)
	wantMake(t, b, 2, 1, 1, 0)
	wantMake(t, a, 3, 0, 2, 1)
	wantRefused(t, b, api.ErrArg, 0, 3, 1)
	wantMake(t, b, 3, 1, 0, 1)
	wantBack(t, a, 0)
	wantNodes(t, b, api.Node{Level: 1, Kids: []int{1, 0}}, api.Node{Level: 1, Kids: []int{0, 1}})
	wantMake(t, b, 2, 1, 1, 0)
	wantNodes(t, a)
}

func TestCallsDoNotDisturbOneAnother(t *testing.T) {
	for seed := range 8 {
		t.Run(strconv.Itoa(seed), func(t *testing.T) {
			t.Parallel()
			r := rand.New(rand.NewSource(int64(seed)))
			for range 100 {
				a, w := randomArena(t, r, 60)
				wantWords(t, a, w)
			}
		})
	}
}

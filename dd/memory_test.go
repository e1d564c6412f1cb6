package dd_test

import (
	"math/rand"
	"runtime"
	"slices"
	"strconv"
	"testing"

	"lychgate/api"
	"lychgate/arena"
	"lychgate/dd"
)

func TestListsAreNotWrittenInto(t *testing.T) {
	a := exampleOfSix(t)
	in := []bool{false, true, false, true, true}
	f, e := dd.Set(a, 1, in[:3])
	wantRef(t, f, e, 8)
	classes := []int{0, 2, -7, -7}
	wantEval(t, a, true, 4, classes[:2]...)
	roots := []int{7, 4, -7, -7}
	wantOrder(t, a, []int{6, 2, 7, 4}, roots[:2]...)
	if !slices.Equal(in, []bool{false, true, false, true, true}) || !slices.Equal(classes, []int{0, 2, -7, -7}) || !slices.Equal(roots, []int{7, 4, -7, -7}) {
		t.Errorf("a call wrote into what came in: %v, %v, %v", in, classes, roots)
	}
}

func TestListsAreNotKept(t *testing.T) {
	a := newArena(t, 8, 3)
	in := []bool{false, true, false}
	f, e := dd.Set(a, 0, in)
	wantRef(t, f, e, 2)
	in[0], in[1] = true, false
	wantNodes(t, a, []api.Node{{Level: 0, Kids: []int{0, 1, 0}}})
	f, e = dd.Set(a, 0, in)
	wantRef(t, f, e, 3)
}

func TestAnswersAreNewMemory(t *testing.T) {
	a := exampleOfSix(t)
	p, _, _ := dd.Path(a, 4)
	q, _, _ := dd.Path(a, 4)
	clear(p[:cap(p)])
	if !slices.Equal(q, []int{0, 1}) {
		t.Error("answers of Path share memory")
	}
	roots := []int{2, 4}
	l, _ := dd.Nodes(a, roots)
	m, _ := dd.Nodes(a, roots)
	clear(l[:cap(l)])
	if !slices.Equal(m, []int{2, 4}) || !slices.Equal(roots, []int{2, 4}) {
		t.Error("answers of Nodes share memory")
	}
	wantPath(t, a, 4, 0, 1)
	wantOrder(t, a, []int{2, 4}, 2, 4)
	clear(q[:cap(q)])
	clear(m[:cap(m)])
	wantPath(t, a, 4, 0, 1)
	wantOrder(t, a, []int{2, 4}, 2, 4)
}

func heapNow() uint64 {
	runtime.GC()
	var m runtime.MemStats
	runtime.ReadMemStats(&m)
	return m.HeapAlloc
}

// What an operation has worked out is gone when it answers.
func TestNothingIsKept(t *testing.T) {
	a := widest(t)
	f, g := sumOf(t, a, 7, 3), sumOf(t, a, 11, 5)
	ahead := a.Len()
	var now [2]uint64
	for i := range now {
		for range 10 {
			h, e := dd.And(a, f, g)
			must(t, h, e)
			if e := a.Back(ahead); e != api.OK {
				t.Fatal(e)
			}
		}
		now[i] = heapNow()
	}
	if now[1] > now[0]+1<<20 {
		t.Errorf("%d bytes, and then %d", now[0], now[1])
	}
	runtime.KeepAlive(a)
}

// What was worked out ahead of Back is not answered behind it, where the numbers stand for something else.
func TestBackBetween(t *testing.T) {
	a := newArena(t, 8, 2, 2)
	set := func(level int, in ...bool) int {
		f, e := dd.Set(a, level, in)
		return must(t, f, e)
	}
	f, g := set(0, true, false), set(1, true, false)
	h, e := dd.And(a, f, g)
	wantRef(t, h, e, 4)
	if e := a.Back(0); e != api.OK {
		t.Fatal(e)
	}
	f, g = set(0, false, true), set(1, false, true)
	h, e = dd.And(a, f, g)
	wantRef(t, h, e, 4)
	wantNodes(t, a, []api.Node{{Level: 0, Kids: []int{0, 1}}, {Level: 1, Kids: []int{0, 1}}, {Level: 0, Kids: []int{0, 3}}})
}

func TestArenasKnowNothingOfOneAnother(t *testing.T) {
	a, b := exampleOfSix(t), newArena(t, 8, 2, 3)
	wantError(t, b, api.ErrArg, func() (int, api.Errno) { return dd.And(b, 2, 3) })
	f, e := dd.Set(b, 0, []bool{false, true})
	wantRef(t, f, e, 2)
	f, e = dd.Not(b, 2)
	wantRef(t, f, e, 3)
	f, e = dd.Or(b, 2, 3)
	wantRef(t, f, e, 1)
	f, e = dd.Or(a, 2, 3)
	wantRef(t, f, e, 5)
	wantNodes(t, b, []api.Node{{Level: 0, Kids: []int{0, 1}}, {Level: 0, Kids: []int{1, 0}}})
}

func TestCallsDoNotDisturbOneAnother(t *testing.T) {
	for seed := range 8 {
		t.Run(strconv.Itoa(seed), func(t *testing.T) {
			t.Parallel()
			r := rand.New(rand.NewSource(int64(seed)))
			for range 100 {
				w := randomWords(r, 2)
				w.most = len(w.nodes) + r.Intn(10)
				a := arenaOf(t, w)
				for range 10 {
					wantOp(t, a, w, randomOp(r, w))
				}
			}
		})
	}
}

// A nil arena has neither refs nor levels.
func TestNilArena(t *testing.T) {
	var a *arena.Arena
	var told []api.Errno
	tell := func(_ int, e api.Errno) { told = append(told, e) }
	tell(dd.Set(a, 0, []bool{true}))
	tell(dd.Not(a, 0))
	tell(dd.And(a, 0, 1))
	tell(dd.Or(a, 0, 1))
	tell(dd.Xor(a, 0, 1))
	tell(dd.Restrict(a, 0, 0, 0))
	_, e := dd.Eval(a, 0, nil)
	tell(0, e)
	_, _, e = dd.Path(a, 0)
	tell(0, e)
	_, e = dd.Nodes(a, []int{0})
	tell(0, e)
	for i, e := range told {
		if e != api.ErrArg {
			t.Errorf("%d: error %d", i, e)
		}
	}
}

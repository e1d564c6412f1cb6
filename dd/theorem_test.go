package dd_test

import (
	"math/rand"
	"testing"

	"lychgate/api"
	"lychgate/arena"
	"lychgate/dd"
)

// laws are an arena with room, in which all calls go well.
type laws struct {
	t *testing.T
	*arena.Arena
}

func (l laws) not(f int) int {
	g, e := dd.Not(l.Arena, f)
	return must(l.t, g, e)
}

func (l laws) and(f, g int) int {
	h, e := dd.And(l.Arena, f, g)
	return must(l.t, h, e)
}

func (l laws) or(f, g int) int {
	h, e := dd.Or(l.Arena, f, g)
	return must(l.t, h, e)
}

func (l laws) xor(f, g int) int {
	h, e := dd.Xor(l.Arena, f, g)
	return must(l.t, h, e)
}

// parts is the Or, over all classes of a level, of the And of that class's Set and its Restrict.
func (l laws) parts(f, level int) int {
	out := 0
	for class := range l.Sizes()[level] {
		in := make([]bool, l.Sizes()[level])
		in[class] = true
		set, e := dd.Set(l.Arena, level, in)
		must(l.t, set, e)
		cut, e := dd.Restrict(l.Arena, f, level, class)
		out = l.or(out, l.and(set, must(l.t, cut, e)))
	}
	return out
}

func TestTheorem(t *testing.T) {
	r := rand.New(rand.NewSource(4))
	for range 2000 {
		l := laws{t, arenaOf(t, randomWords(r, 3))}
		f, g, h := r.Intn(l.Len()+2), r.Intn(l.Len()+2), r.Intn(l.Len()+2)
		if l.and(f, g) != l.and(g, f) || l.or(f, g) != l.or(g, f) || l.xor(f, g) != l.xor(g, f) {
			t.Fatal("the order of two")
		}
		if l.and(f, l.and(g, h)) != l.and(l.and(f, g), h) || l.or(f, l.or(g, h)) != l.or(l.or(f, g), h) || l.xor(f, l.xor(g, h)) != l.xor(l.xor(f, g), h) {
			t.Fatal("brackets")
		}
		if l.not(l.not(f)) != f || l.and(f, f) != f || l.or(f, f) != f || l.xor(f, f) != 0 {
			t.Fatal("one alone")
		}
		if l.not(l.and(f, g)) != l.or(l.not(f), l.not(g)) || l.and(f, l.not(f)) != 0 || l.or(f, l.not(f)) != 1 || l.xor(f, l.not(f)) != 1 {
			t.Fatal("Not")
		}
		if l.xor(f, g) != l.or(l.and(f, l.not(g)), l.and(l.not(f), g)) {
			t.Fatal("Xor")
		}
		for level := range l.Sizes() {
			if l.parts(f, level) != f {
				t.Fatal("Restrict")
			}
		}
	}
}

// What a call answers once it answers again, and makes nothing then.
func TestAgain(t *testing.T) {
	r := rand.New(rand.NewSource(5))
	for range 1000 {
		w := randomWords(r, 3)
		a := arenaOf(t, w)
		o, other := randomOp(r, w), randomOp(r, w)
		first, e := o.call(a)
		must(t, first, e)
		second, e := other.call(a)
		must(t, second, e)
		nodes := allNodes(t, a)
		f, e := o.call(a)
		wantRef(t, f, e, first)
		f, e = other.call(a)
		wantRef(t, f, e, second)
		wantNodes(t, a, nodes)
	}
}

// sumOf is true of points whose classes make up a sum with that rest; the nodes of a level are all the rests.
func sumOf(t *testing.T, a *arena.Arena, by, rest int) int {
	t.Helper()
	sizes := a.Sizes()
	next := make([]int, by)
	next[rest] = 1
	for level := len(sizes) - 1; level >= 0; level-- {
		now := make([]int, by)
		for sum := range by {
			kids := make([]int, sizes[level])
			for class := range kids {
				kids[class] = next[(sum+class)%by]
			}
			f, e := a.Make(level, kids)
			now[sum] = must(t, f, e)
		}
		next = now
	}
	return next[0]
}

func widest(t *testing.T) *arena.Arena {
	t.Helper()
	sizes := make([]int, api.MaxVars)
	for i := range sizes {
		sizes[i] = api.MaxClasses
	}
	return newArena(t, api.MaxNodes, sizes...)
}

// There are 256^12 points: nothing comes to its end here that goes through a node more often than need be.
func TestGreatDiagrams(t *testing.T) {
	a := widest(t)
	f, g := sumOf(t, a, 7, 3), sumOf(t, a, 11, 5)
	ahead := a.Len()
	h, e := dd.And(a, f, g)
	must(t, h, e)
	// The rests of 77: each of the levels but the first one has all.
	if made := a.Len() - ahead; made != 1+11*77 {
		t.Errorf("%d new nodes", made)
	}
	l, e := dd.Nodes(a, []int{h})
	if len(l) != 1+11*77 || l[len(l)-1] != h || e != api.OK {
		t.Errorf("%d nodes, error %d", len(l), e)
	}
	for i, f := range l {
		if f != ahead+2+i {
			t.Fatalf("node %d stands at the place %d", f, i)
		}
	}
	if want := sumOf(t, a, 77, 38); h != want {
		t.Errorf("%d; want %d", h, want)
	}
	wantPath(t, a, h, 0, 0, 0, 0, 0, 0, 0, 0, 0, 0, 0, 38)
	wantEval(t, a, true, h, 38+77, 0, 0, 0, 0, 0, 0, 0, 0, 0, 76, 1)
	law := laws{t, a}
	if law.not(law.or(law.not(f), law.not(g))) != h || law.xor(law.xor(f, g), law.or(f, g)) != h {
		t.Error("laws")
	}
	cut, e := dd.Restrict(a, h, 11, 200)
	rest, e2 := dd.Restrict(a, h, 11, 200-77)
	if cut != rest || e != api.OK || e2 != api.OK || cut < 2 {
		t.Errorf("%d, error %d; %d, error %d", cut, e, rest, e2)
	}
	for level := range 11 {
		cut, e = dd.Restrict(a, cut, level, 255)
		must(t, cut, e)
	}
	if want := (200 + 11*255) % 77; (cut == 1) != (want == 38) || cut > 1 {
		t.Errorf("%d; the rest is %d", cut, want)
	}
}

func TestGreatDiagramsWithoutRoom(t *testing.T) {
	a := widest(t)
	// Both are true of the sum 1530 alone, in the midst of all.
	f, g := sumOf(t, a, 63, 1530%63), sumOf(t, a, 64, 1530%64)
	ahead := a.Len()
	joins := []func(*arena.Arena, int, int) (int, api.Errno){dd.And, dd.Or, dd.Xor}
	for _, join := range joins {
		if h, e := join(a, f, g); h != 0 || e != api.ErrNodeLimit || a.Len() != ahead {
			t.Errorf("%d, error %d; %d nodes, and then %d", h, e, ahead, a.Len())
		}
	}
	h, e := dd.Not(a, f)
	must(t, h, e)
	if made := a.Len() - ahead; made != 1+11*63 {
		t.Errorf("%d new nodes", made)
	}
}

// Up to the last node that an arena may have.
func TestJoinsAtTheFarEnd(t *testing.T) {
	a := newArena(t, api.MaxNodes, 256, 256)
	in := make([]bool, 256)
	for i := range api.MaxNodes - 2 {
		for bit := range 14 {
			in[255-bit] = (i+1)>>bit&1 == 1
		}
		f, e := dd.Set(a, 1, in)
		wantRef(t, f, e, i+2)
	}
	f, e := dd.Set(a, 0, in)
	wantRef(t, f, e, 8192)
	g, e := dd.Not(a, 8192)
	wantRef(t, g, e, 8193)
	wantError(t, a, api.ErrNodeLimit, func() (int, api.Errno) { return dd.And(a, 8192, 8191) })
	wantError(t, a, api.ErrNodeLimit, func() (int, api.Errno) { return dd.Not(a, 8191) })
	wantError(t, a, api.ErrArg, func() (int, api.Errno) { return dd.Not(a, 8194) })
	h, e := dd.Or(a, 8193, 8192)
	wantRef(t, h, e, 1)
	h, e = dd.Not(a, 8193)
	wantRef(t, h, e, 8192)
	// The sets of the bits 1 and 2, and of both.
	h, e = dd.Or(a, 2, 3)
	wantRef(t, h, e, 4)
	h, e = dd.Xor(a, 8191, 8190)
	wantRef(t, h, e, 8190^8189+1)
}

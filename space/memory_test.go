package space_test

import (
	"fmt"
	"math/rand"
	"runtime"
	"slices"
	"sync"
	"testing"
	"time"

	"lychgate/api"
	"lychgate/space"
)

func withRoom[T any](l []T, mark T) []T {
	return append(slices.Clone(l), mark)[:len(l)]
}

func full[T any](l []T) []T { return l[:cap(l)] }

// roomyTest is a test whose lists have spare room, with marks in it.
func roomyTest(a api.Atom) api.Atom {
	a.Spans, a.Names = withRoom(a.Spans, api.Span{Lo: 77}), withRoom(a.Names, "room")
	pieces := slices.Clone(a.Pieces)
	for i := range pieces {
		if pieces[i].Set != nil {
			pieces[i].Set = withRoom(pieces[i].Set, api.Span{Lo: 77})
		}
	}
	a.Pieces = withRoom(pieces, api.Piece{Kind: 77})
	return a
}

func roomyAttr(x api.Attr) api.Attr {
	x.Rows, x.Cuts, x.Methods = withRoom(x.Rows, api.Row{Label: 77}), withRoom(x.Cuts, api.Cut{Class: 77}), withRoom(x.Methods, api.Method{Name: "room"})
	x.Auto.Next, x.Auto.Out = withRoom(x.Auto.Next, 77), withRoom(x.Auto.Out, 77)
	return x
}

// tellTest and tellAttr tell all, the spare room too.
func tellTest(a api.Atom) string {
	s := fmt.Sprint(a.Kind, a.Name, full(a.Spans), full(a.Names), full(a.Pieces))
	for _, p := range a.Pieces {
		s += fmt.Sprint(full(p.Set))
	}
	return s
}

func tellAttr(x api.Attr) string {
	return fmt.Sprint(x.Kind, x.Name, x.Size, x.Rest, full(x.Rows), full(x.Cuts), full(x.Methods), x.Auto.Bytes, full(x.Auto.Next), full(x.Auto.Out))
}

func TestArgumentsAreNotWrittenInto(t *testing.T) {
	r := rand.New(rand.NewSource(13))
	for range 60 {
		var l []api.Atom
		for _, a := range randomTests(r, 8) {
			l = append(l, roomyTest(a))
		}
		l = withRoom(l, api.Atom{Kind: 77})
		x, e := space.Build(l)
		if e != api.OK {
			continue
		}
		before := tellAll(l, nil, nil, api.Request{})
		space.Build(l)
		if tellAll(l, nil, nil, api.Request{}) != before {
			t.Fatal("Build has written into its tests")
		}
		for i := range x {
			x[i] = roomyAttr(x[i])
		}
		x = withRoom(x, api.Attr{Kind: 77})
		q := randomRequest(r, x)
		q.Headers = withRoom(q.Headers, api.Field{Name: "room"})
		classes, _ := space.Classes(x, q)
		classes = withRoom(classes, 77)
		before = tellAll(l, x, classes, q)
		space.Right(x)
		space.Classes(x, q)
		space.Request(x, classes)
		for _, y := range x {
			space.Least(y, y.Size-1)
			for _, a := range l {
				space.Of(x, a)
				space.In(y, a)
			}
			numbers := withRoom(randomNumbers(r, y.Size), 77)
			was := fmt.Sprint(full(numbers))
			space.Fuse(y, numbers)
			if fmt.Sprint(full(numbers)) != was {
				t.Fatal("Fuse has written into its numbers")
			}
		}
		if tellAll(l, x, classes, q) != before {
			t.Fatal("an argument was written into")
		}
	}
}

func tellAll(l []api.Atom, x []api.Attr, classes []int, q api.Request) string {
	s := fmt.Sprint(full(classes), q, full(q.Headers), cap(l), cap(x))
	for _, a := range full(l) {
		s += tellTest(a)
	}
	for _, y := range full(x) {
		s += tellAttr(y)
	}
	return s
}

// spoil writes into all lists of an attribute, and their spare room.
func spoil(x *api.Attr) {
	for i := range full(x.Rows) {
		full(x.Rows)[i] = api.Row{Prefix: api.Prefix{Addr: 9, Bits: 9}, Label: 9}
	}
	for i := range full(x.Cuts) {
		full(x.Cuts)[i] = api.Cut{From: 9, Class: 9}
	}
	for i := range full(x.Methods) {
		full(x.Methods)[i] = api.Method{Name: "SPOILT", Class: 9}
	}
	for i := range full(x.Auto.Next) {
		full(x.Auto.Next)[i] = 9
	}
	for i := range full(x.Auto.Out) {
		full(x.Auto.Out)[i] = 9
	}
}

func TestAnswersAreNewMemory(t *testing.T) {
	r := rand.New(rand.NewSource(14))
	for range 60 {
		l := randomTests(r, 8)
		x, e := space.Build(l)
		if e != api.OK {
			continue
		}
		tests, want := fmt.Sprint(l), tell(x...)
		y, _ := space.Build(l)
		for i := range y {
			spoil(&y[i])
		}
		for i := range full(y) {
			full(y)[i] = api.Attr{}
		}
		for i := range x { // an attribute that stays as it is
			same := make([]int, x[i].Size)
			for c := range same {
				same[c] = c
			}
			z := fused(t, x[i], same...)
			if tell(z) != tell(x[i]) {
				t.Fatal(tell(z))
			}
			spoil(&z)
		}
		if tell(x...) != want || fmt.Sprint(l) != tests {
			t.Fatal("answers share memory")
		}
		q := randomRequest(r, x)
		one, _ := space.Classes(x, q)
		two, _ := space.Classes(x, q)
		was := fmt.Sprint(two)
		for i := range full(one) {
			full(one)[i] = -5
		}
		first, _ := space.Request(x, two)
		second, _ := space.Request(x, two)
		told := fmt.Sprint(second)
		for i := range full(first.Headers) {
			full(first.Headers)[i] = api.Field{Name: "spoilt"}
		}
		if fmt.Sprint(two) != was || fmt.Sprint(second) != told || tell(x...) != want {
			t.Fatal("answers share memory")
		}
		for _, a := range l {
			y := x[space.Of(x, a)]
			one, _ := space.In(y, a)
			two, _ := space.In(y, a)
			was := fmt.Sprint(two)
			for i := range full(one) {
				full(one)[i] = i >= len(two) || !two[i]
			}
			if fmt.Sprint(two) != was {
				t.Fatal("answers share memory")
			}
		}
	}
}

// The attributes of one answer share nothing: what is written into one does not show in another.
func TestAttributesShareNothing(t *testing.T) {
	x := built(t, header("k", "a"), header("m", "a"), has("n"), has("o"), path("/a"), names("A"))
	for i := range x {
		var others []string
		for _, y := range x {
			others = append(others, tell(y))
		}
		spoil(&x[i])
		for j, y := range x {
			if j != i && tell(y) != others[j] {
				t.Errorf("attributes %d and %d share memory", i, j)
			}
		}
	}
}

// What is handed in is not kept: later changes do not show.
func TestArgumentsAreNotKept(t *testing.T) {
	a := []api.Atom{addrs(api.Span{Lo: 5, Hi: 9}), ports(api.Span{Lo: 5, Hi: 9}), names("GET", "PUT"), path("/[a-c]"), header("k", "[!a-c]")}
	x := built(t, a...)
	want := tell(x...)
	for i := range a {
		for j := range a[i].Spans {
			a[i].Spans[j] = api.Span{Lo: 77, Hi: 78}
		}
		for j := range a[i].Names {
			a[i].Names[j] = "Z"
		}
		for j := range a[i].Pieces {
			for k := range a[i].Pieces[j].Set {
				a[i].Pieces[j].Set[k] = api.Span{Lo: 77, Hi: 78}
			}
			a[i].Pieces[j] = api.Piece{}
		}
		a[i] = api.Atom{}
	}
	if tell(x...) != want {
		t.Error(tell(x...))
	}
	y := fused(t, x[2], 0, 1)
	want = tell(y)
	x[2].Methods[0] = api.Method{}
	if tell(y) != want {
		t.Error(tell(y))
	}
}

func TestGoroutinesEnd(t *testing.T) {
	before := runtime.NumGoroutine()
	for range 100 {
		built(t, has("a"), has("b"), has("c"))
		space.Build([]api.Atom{path(deep(9)), has("a")})
		space.Build([]api.Atom{has("a"), has("a")})
	}
	// One that has told that it is done may need a moment to go.
	for range 200 {
		if runtime.NumGoroutine() <= before {
			return
		}
		time.Sleep(5 * time.Millisecond)
	}
	t.Errorf("%d goroutines, %d before", runtime.NumGoroutine(), before)
}

func TestCallsSideBySide(t *testing.T) {
	l := []api.Atom{addrs(api.Span{Lo: 5, Hi: 9}), ports(api.Span{Lo: 5, Hi: 9}), names("GET", "PUT"), path("/[a-c]"), header("k", "[!a-c]"), has("k")}
	x := built(t, l...)
	want := tell(x...)
	var all sync.WaitGroup
	for range 8 {
		all.Add(1)
		go func() {
			defer all.Done()
			for range 10 {
				y, e := space.Build(l)
				if e != api.OK || tell(y...) != want || !space.Right(x) {
					t.Error(e)
				}
				q, e := space.Request(x, []int{1, 1, 1, 1, 2})
				if c, f := space.Classes(x, q); e != api.OK || f != api.OK || !slices.Equal(c, []int{1, 1, 1, 1, 2}) {
					t.Error(c, e, f)
				}
				if in, e := space.In(x[4], l[5]); e != api.OK || !slices.Equal(in, []bool{false, true, true}) {
					t.Error(in, e)
				}
				if z, e := space.Fuse(x[4], []int{0, 0, 0}); e != api.OK || z.Size != 1 {
					t.Error(z, e)
				}
			}
		}()
	}
	all.Wait()
}

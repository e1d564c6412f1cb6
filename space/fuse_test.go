package space_test

import (
	"fmt"
	"math/rand"
	"slices"
	"testing"

	"lychgate/api"
	"lychgate/request"
	"lychgate/space"
)

// fused is what Fuse gives.
func fused(t *testing.T, x api.Attr, classes ...int) api.Attr {
	t.Helper()
	y, e := space.Fuse(x, classes)
	if e != api.OK {
		t.Fatalf("%s by %v: error %d", tell(x), classes, e)
	}
	return y
}

func TestFuseOfTheExamples(t *testing.T) {
	x := only(t, api.AttrHeader, header("k", "a*"), has("k"))
	if y := fused(t, x, 0, 1, 1); tell(y) != tell(only(t, api.AttrHeader, has("k"))) {
		t.Error(tell(y))
	}
	if y := fused(t, x, 0, 0, 2); tell(y) != tell(only(t, api.AttrHeader, header("k", "a*"))) {
		t.Error(tell(y))
	}
	if y := fused(t, x, 0, 1, 2); tell(y) != tell(x) {
		t.Error(tell(y))
	}
	if y := fused(t, x, 0, 0, 0); tell(y) != tell(api.Attr{Kind: api.AttrHeader, Name: "k", Size: 1, Auto: request.Values()}) {
		t.Error(tell(y))
	}
	// NONE with what begins with a; all other values stay.
	if y := fused(t, x, 0, 1, 0); y.Size != 2 || labels(y.Auto, "", "a", "b", "ab", " ") != "21210" {
		t.Error(tell(y))
	}
}

func TestFuse(t *testing.T) {
	x := good(t)
	for _, c := range []struct {
		at      int
		classes []int
		want    string
	}{
		{0, []int{0, 0, 0}, "[{{0 0} 0}]"},
		{0, []int{0, 0, 2}, "[{{0 1} 0} {{2147483648 2} 0} {{3221225472 2} 1}]"},
		{1, []int{0, 0, 0, 0}, "[{0 0}]"},
		{1, []int{0, 1, 1, 1}, "[{0 0} {80 1} {91 0}]"},
		{1, []int{0, 1, 1, 0}, "[{0 0} {80 1} {90 0}]"},
		{1, []int{0, 0, 2, 3}, "[{0 0} {85 1} {90 2} {91 0}]"},
		{1, []int{0, 1, 0, 1}, "[{0 0} {80 1} {85 0} {90 1} {91 0}]"},
		{2, []int{0, 0, 0, 0}, "[] 0"},
		{2, []int{0, 0, 2, 3}, "[{Z 1} {GET 2}] 0"},
		{2, []int{0, 0, 2, 2}, "[{Z 1} {GET 1}] 0"},
		{2, []int{0, 1, 1, 3}, "[{A 0} {GET 2}] 1"},
		{2, []int{0, 1, 0, 1}, "[{A 0} {Z 0}] 1"},
		{2, []int{0, 1, 2, 0}, "[{A 0} {Z 2} {GET 0}] 1"},
	} {
		y := fused(t, x[c.at], c.classes...)
		got := map[int]string{0: fmt.Sprint(y.Rows), 1: fmt.Sprint(y.Cuts), 2: fmt.Sprint(y.Methods, y.Rest)}[c.at]
		if got != c.want {
			t.Errorf("%v: %s", c.classes, got)
		}
	}
	y := fused(t, x[3], 0, 0, 2)
	if tell(y) != tell(only(t, api.AttrPath, path("/a/**"))) {
		t.Error(tell(y))
	}
	y = fused(t, x[3], 0, 1, 1)
	if y.Size != 2 || labels(y.Auto, "/", "/a", "/b", "/a/b", "") != "11220" {
		t.Error(tell(y))
	}
	if y := fused(t, x[3], 0, 0, 0); tell(y) != tell(only(t, api.AttrPath)) {
		t.Error(tell(y))
	}
}

func TestWrongNumbers(t *testing.T) {
	x := good(t)
	for i, y := range x {
		same := make([]int, y.Size)
		for c := range same {
			same[c] = c
		}
		if z := fused(t, y, same...); tell(z) != tell(y) {
			t.Errorf("attribute %d: %s", i, tell(z))
		}
		last := y.Size - 1
		var wrong [][]int
		for _, n := range []int{-1, -1 << 63, last + 1, 1<<63 - 1} {
			for c := range same {
				l := slices.Clone(same)
				l[c] = n
				wrong = append(wrong, l)
			}
		}
		above, chain := slices.Clone(same), slices.Clone(same)
		above[1] = 2
		chain[1], chain[2] = 0, 1 // 1 is no class any more
		wrong = append(wrong, nil, []int{}, same[:last], append(slices.Clip(same), 0), append(slices.Clip(same), last+1), above, chain)
		first := slices.Clone(same)
		first[0] = 1
		wrong = append(wrong, first)
		for _, l := range wrong {
			if z, e := space.Fuse(y, l); tell(z) != tell(api.Attr{}) || e != api.ErrArg {
				t.Errorf("attribute %d by %v: %s, error %d", i, l, tell(z), e)
			}
		}
	}
}

// randomNumbers are some by which so many classes may be fused.
func randomNumbers(r *rand.Rand, size int) []int {
	var out, own []int
	for i := range size {
		if i == 0 || r.Intn(2) == 0 {
			own = append(own, i)
			out = append(out, i)
		} else {
			out = append(out, pick(r, own...))
		}
	}
	return out
}

func TestFuseByChance(t *testing.T) {
	r := rand.New(rand.NewSource(8))
	fewer := map[int]int{}
	for i := range 60 {
		l := randomTests(r, []int{4, 12, 30}[i%3])
		x, e := space.Build(l)
		if e != api.OK {
			continue
		}
		for at, y := range x {
			classes := randomNumbers(r, y.Size)
			z := fused(t, y, classes...)
			if z.Size < y.Size {
				fewer[y.Kind]++
			}
			all := slices.Clone(x)
			all[at] = z
			if !space.Right(all) || !wordsRight(z) || z.Kind != y.Kind || z.Name != y.Name {
				t.Fatalf("%s by %v: %s", tell(y), classes, tell(z))
			}
			class := map[int]int{}
			for _, m := range members(r, asking(l, y), y) {
				n, c := classes[wordsClass(y, m)], wordsClass(z, m)
				if was, is := class[n]; is && was != c {
					t.Fatalf("%s by %v: %+v is of %d, others of %d", tell(y), classes, m, c, was)
				}
				class[n] = c
			}
			own := slices.Sorted(slices.Values(classes))
			if own = slices.Compact(own); z.Size != len(own) {
				t.Fatalf("%s by %v: %d classes", tell(y), classes, z.Size)
			}
			for c, n := range own { // the least members stay
				m, _ := space.Least(y, n)
				if got, e := space.Least(z, c); got != m || e != api.OK {
					t.Fatalf("%s by %v: %+v, not %+v", tell(y), classes, got, m)
				}
			}
		}
	}
	for kind := api.AttrAddr; kind <= api.AttrHeader; kind++ {
		if fewer[kind] < 8 {
			t.Errorf("kind %d: %d", kind, fewer[kind])
		}
	}
}

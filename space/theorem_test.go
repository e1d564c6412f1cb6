package space_test

import (
	"fmt"
	"math/rand"
	"slices"
	"testing"

	"lychgate/api"
	"lychgate/atom"
	"lychgate/request"
	"lychgate/space"
)

func passedBy(t *testing.T, l []api.Atom, q api.Request) string {
	t.Helper()
	out := ""
	for _, a := range l {
		is, e := atom.Test(a, q)
		if e != api.OK {
			t.Fatalf("%+v, %+v: error %d", a, q, e)
		}
		out += fmt.Sprint(is)[:1]
	}
	return out
}

// Two requests of the same classes pass the same tests, those which In says.
func TestClassesAreAll(t *testing.T) {
	r := rand.New(rand.NewSource(9))
	alike := 0
	for range 40 {
		l := randomTests(r, 8)
		x, e := space.Build(l)
		if e != api.OK {
			continue
		}
		in := make([][]bool, len(l))
		for i, a := range l {
			if in[i], e = space.In(x[space.Of(x, a)], a); e != api.OK {
				t.Fatalf("%+v: error %d", a, e)
			}
		}
		met := map[string]string{}
		for range 40 {
			q := randomRequest(r, x)
			classes, e := space.Classes(x, q)
			if e != api.OK {
				t.Fatal(e)
			}
			got, says := passedBy(t, l, q), ""
			for i, a := range l {
				says += fmt.Sprint(in[i][classes[space.Of(x, a)]])[:1]
			}
			was, is := met[fmt.Sprint(classes)]
			if got != says || is && was != got {
				t.Fatalf("%+v, %+v: %s, In says %s, another one of the same classes %s", l, q, got, says, was)
			}
			if is {
				alike++
			}
			met[fmt.Sprint(classes)] = got
		}
	}
	if alike < 100 {
		t.Errorf("%d alike alone", alike)
	}
}

// Request and Classes are one another's, and Request gives, member by member, the least.
func TestRequestOfClasses(t *testing.T) {
	r := rand.New(rand.NewSource(10))
	for range 40 {
		l := randomTests(r, 10)
		x, e := space.Build(l)
		if e != api.OK {
			continue
		}
		for range 6 {
			var classes []int
			for _, y := range x {
				classes = append(classes, r.Intn(y.Size))
			}
			q, e := space.Request(x, classes)
			if e != api.OK || !request.Right(q) {
				t.Fatalf("%v: %+v, error %d", classes, q, e)
			}
			if got, e := space.Classes(x, q); !slices.Equal(got, classes) || e != api.OK {
				t.Fatalf("%v: %+v has %v, error %d", classes, q, got, e)
			}
			other := randomRequest(r, x)
			of, _ := space.Classes(x, other)
			least, e := space.Request(x, of)
			if e != api.OK || passedBy(t, l, least) != passedBy(t, l, other) {
				t.Fatalf("%+v and %+v, error %d", least, other, e)
			}
			if least.Addr > other.Addr || least.Port > other.Port || wordsAhead(api.Sample{Text: other.Method}, api.Sample{Text: least.Method}) || wordsAhead(api.Sample{Text: other.Path}, api.Sample{Text: least.Path}) {
				t.Fatalf("%+v is not less than %+v", least, other)
			}
			for _, f := range least.Headers {
				if value, is := request.Header(other, f.Name); !is || wordsAhead(api.Sample{Text: value}, api.Sample{Text: f.Value}) {
					t.Fatalf("%+v is not less than %+v", least, other)
				}
			}
		}
	}
}

func TestTheOrderOfTestsDoesNotMatter(t *testing.T) {
	r := rand.New(rand.NewSource(11))
	for range 100 {
		l := randomTests(r, 14)
		x, e := space.Build(l)
		mixed := slices.Clone(l)
		r.Shuffle(len(mixed), func(i, j int) { mixed[i], mixed[j] = mixed[j], mixed[i] })
		y, f := space.Build(mixed)
		if e == api.OK && f == api.OK && tell(x...) != tell(y...) {
			t.Fatalf("%+v: %s, in another order %s", l, tell(x...), tell(y...))
		}
		again, _ := space.Build(l)
		if tell(x...) != tell(again...) {
			t.Fatalf("%+v: %s, once more %s", l, tell(x...), tell(again...))
		}
	}
}

// What Build gives of some of the tests is a Fuse of what it gives of all.
func TestSomeOfTheTests(t *testing.T) {
	r := rand.New(rand.NewSource(12))
	fewer := 0
	for range 100 {
		l := randomTests(r, 14)
		all, e := space.Build(l)
		if e != api.OK {
			continue
		}
		few := slices.DeleteFunc(slices.Clone(l), func(api.Atom) bool { return r.Intn(2) == 0 })
		for _, y := range built(t, few...) {
			at := slices.IndexFunc(all, func(z api.Attr) bool { return z.Kind == y.Kind && z.Name == y.Name })
			first := map[int]int{}
			var classes []int
			for c := range all[at].Size {
				m, _ := space.Least(all[at], c)
				n := wordsClass(y, m)
				if _, is := first[n]; !is {
					first[n] = c
				}
				classes = append(classes, first[n])
			}
			if z := fused(t, all[at], classes...); tell(z) != tell(y) {
				t.Fatalf("%+v of %+v: %s, not %s", few, l, tell(z), tell(y))
			}
			if y.Size < all[at].Size {
				fewer++
			}
		}
	}
	if fewer < 50 {
		t.Errorf("%d had fewer classes alone", fewer)
	}
}

// Patterns that match the same members part alike, though they are different tests.
func TestTestsThatSayTheSame(t *testing.T) {
	for _, c := range [][2]api.Atom{
		{path("**"), path("/**")},
		{path("/[!a]"), path("/[!a/]")},
		{header("k", "**"), has("k")},
		{header("k", "?"), header("k", "[!/]")},
	} {
		x, y := built(t, c[0]), built(t, c[1])
		if tell(x...) != tell(y...) {
			t.Errorf("%+v: %s, %s", c, tell(x...), tell(y...))
		}
		if z := built(t, c[0], c[1]); tell(z...) != tell(x...) {
			t.Errorf("%+v: %s", c, tell(z...))
		}
	}
}

package request_test

import (
	"math/rand"
	"slices"
	"strconv"
	"testing"

	"lychgate/api"
	"lychgate/request"
)

var mark = api.Field{Name: "mark", Value: "mark"}

// spoil writes over all of a list, spare room too.
func spoil[T any](l []T, with T) {
	l = l[:cap(l)]
	for i := range l {
		l[i] = with
	}
}

func TestHeadersAreNotTouched(t *testing.T) {
	for _, r := range changes() {
		was := slices.Clone(r.Headers)
		r.Headers = append(slices.Clone(r.Headers), mark, mark, mark)[:len(was)]
		request.Right(r)
		request.Encode(r)
		request.Header(r, "host")
		if !slices.Equal(r.Headers, was) || !slices.Equal(r.Headers[:len(was)+3][len(was):], []api.Field{mark, mark, mark}) {
			t.Fatalf("%q was written into", was)
		}
	}
}

func TestAnswersAreNewMemory(t *testing.T) {
	const s = "GET / 1.2.3.4:80\nb:1\na:2\nB:3\n\n"
	one, _ := request.Decode(s)
	two, _ := request.Decode(s)
	spoil(one.Headers, mark)
	three, _ := request.Decode(s)
	want := []api.Field{{Name: "a", Value: "2"}, {Name: "b", Value: "1,3"}}
	if !slices.Equal(two.Headers, want) || !slices.Equal(three.Headers, want) {
		t.Errorf("%q %q", two.Headers, three.Headers)
	}
	for name, call := range map[string]func() api.Auto{"Paths": request.Paths, "Values": request.Values} {
		one, two := call(), call()
		was := api.Auto{Bytes: one.Bytes, Next: slices.Clone(one.Next), Out: slices.Clone(one.Out)}
		spoil(one.Next, -9)
		if !slices.Equal(one.Out, was.Out) {
			t.Errorf("%s: two lists of one answer share memory", name)
		}
		spoil(one.Out, -9)
		three := call()
		for _, a := range []api.Auto{two, three} {
			if a.Bytes != was.Bytes || !slices.Equal(a.Next, was.Next) || !slices.Equal(a.Out, was.Out) {
				t.Errorf("%s: another answer was changed", name)
			}
		}
	}
}

// Calls at the same time do not disturb one another.
func TestCallsAtTheSameTime(t *testing.T) {
	for seed := range 8 {
		t.Run(strconv.Itoa(seed), func(t *testing.T) {
			t.Parallel()
			r := rand.New(rand.NewSource(int64(seed)))
			for range 500 {
				s := randomText(r)
				checkDecode(t, s)
				checkDecode(t, disturbed(r, s))
				checkPath(t, randomPath(r))
				if label(request.Values(), "a b") != 1 {
					t.Fatal("a value")
				}
			}
			if label(request.Paths(), "/a/%2F") != 1 {
				t.Fatal("a path")
			}
		})
	}
}

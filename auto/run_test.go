package auto_test

import (
	"math"
	"math/rand"
	"strings"
	"testing"

	"lychgate/api"
	"lychgate/auto"
)

func TestRun(t *testing.T) {
	r := rand.New(rand.NewSource(7))
	all := texts("\x00/a\xff", 4)
	for range 20 {
		a := randomRight(t, r, 1+r.Intn(9), 1+r.Intn(5), 3)
		for _, s := range all {
			if n, e := auto.Run(a, s); e != api.OK || n != labelByWords(a, s) {
				t.Fatalf("Run(%s, %q): %d, error %d", told(a), s, n, e)
			}
		}
	}
}

func TestRunOfEachByte(t *testing.T) {
	a := api.Auto{Bytes: distinct()}
	for s := range 256 {
		for c := range 256 {
			a.Next = append(a.Next, (s+c)%256)
		}
		a.Out = append(a.Out, 65535-s)
	}
	for b := range 256 {
		if n, e := auto.Run(a, string([]byte{byte(b)})); e != api.OK || n != 65535-b {
			t.Fatalf("byte %d: %d, error %d", b, n, e)
		}
	}
}

func TestRunOfLong(t *testing.T) {
	if n, e := auto.Run(counter('a', 251), strings.Repeat("ab", 1000000)); e != api.OK || n != 1000000%251 {
		t.Errorf("a million: %d, error %d", n, e)
	}
}

func TestRunOfWrong(t *testing.T) {
	for _, wrong := range wrongs() {
		if n, e := auto.Run(wrong, "a"); e != api.ErrArg || n != 0 {
			t.Errorf("Run(%s): %d, error %d", told(wrong), n, e)
		}
		if s, is, e := auto.Shortest(wrong, 0); e != api.ErrArg || is || s != "" {
			t.Errorf("Shortest(%s): %q, %v, error %d", told(wrong), s, is, e)
		}
	}
}

func TestShortestExamples(t *testing.T) {
	for _, c := range []struct {
		pattern string
		label   int
		s       string
		is      bool
	}{
		{"a", 1, "a", true},
		{"a", 0, "", true},
		{"a", 7, "", false},
		{"a", -1, "", false},
		{"a", 65536, "", false},
		{"a", math.MaxInt, "", false},
		{"a", math.MinInt, "", false},
		{"/?*", 1, "/\x00", true},
		{"", 0, "\x00", true},
		{"", 1, "", true},
		{"**", 0, "", false},
		{"*", 0, "/", true},
		{"[!b]", 1, "\x00", true},
		{"[a-c]~", 1, "a~", true},
		{"*b*a*c", 1, "bac", true},
		{strings.Repeat("ab", 32), 1, strings.Repeat("ab", 32), true},
	} {
		if s, is, e := auto.Shortest(of(t, c.pattern), c.label); s != c.s || is != c.is || e != api.OK {
			t.Errorf("%q, %d: %q, %v, error %d", c.pattern, c.label, s, is, e)
		}
	}
}

// shortestByWords goes through all texts of the first bytes of the columns, the LESS ones first, as far as they come to new states.
func shortestByWords(a api.Auto, label int) (string, bool) {
	type come struct {
		state int
		text  string
	}
	met := map[int]bool{0: true}
	todo := []come{{}}
	for len(todo) > 0 {
		c := todo[0]
		todo = todo[1:]
		if a.Out[c.state] == label {
			return c.text, true
		}
		for b := range 256 {
			if to := after(a, c.state, b); !met[to] {
				met[to] = true
				todo = append(todo, come{to, c.text + string([]byte{byte(b)})})
			}
		}
	}
	return "", false
}

func TestShortestOfRandom(t *testing.T) {
	r := rand.New(rand.NewSource(8))
	all := texts("\x00\x01\x02\x03", 5)
	for range 300 {
		a := randomRight(t, r, 1+r.Intn(20), 1+r.Intn(5), 1+r.Intn(9))
		for label := range 10 {
			want, there := shortestByWords(a, label)
			s, is, e := auto.Shortest(a, label)
			if e != api.OK || is != there || s != want {
				t.Fatalf("Shortest(%s, %d): %q, %v, error %d, want %q", told(a), label, s, is, e, want)
			}
			if is && labelByWords(a, s) != label {
				t.Fatalf("Shortest(%s, %d): %q has another label", told(a), label, s)
			}
			for _, x := range all {
				if x == s {
					break
				}
				if labelByWords(a, x) == label && len(x) <= len(s) && (len(x) < len(s) || x < s) {
					t.Fatalf("Shortest(%s, %d): %q, but %q is less", told(a), label, s, x)
				}
			}
		}
	}
}

// The bytes of a text are the first ones of their columns, whichever these are.
func TestShortestByLateBytes(t *testing.T) {
	a := api.Auto{Bytes: columns("\xfe\xff"), Next: []int{0, 0, 1, 0, 2, 1, 3, 2, 2, 3, 3, 3}, Out: []int{0, 1, 2, 3}}
	for label, want := range []string{"", "\xff", "\xff\xfe", "\xff\xfe\x00"} {
		if s, is, e := auto.Shortest(a, label); s != want || !is || e != api.OK {
			t.Errorf("%d: %q, %v, error %d, want %q", label, s, is, e, want)
		}
	}
}

func TestShortestOfLong(t *testing.T) {
	if s, is, e := auto.Shortest(chain(256), 1); s != strings.Repeat("\x00", 255) || !is || e != api.OK {
		t.Errorf("255 bytes: %q, %v, error %d", s, is, e)
	}
	if s, is, e := auto.Shortest(counter('a', 256), 255); s != strings.Repeat("a", 255) || !is || e != api.OK {
		t.Errorf("255 letters: %q, %v, error %d", s, is, e)
	}
}

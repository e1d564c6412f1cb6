package request_test

import (
	"math/rand"
	"strings"
	"testing"

	"lychgate/api"
	"lychgate/auto"
	"lychgate/request"
)

// label goes through an automaton by itself, since Run asks each time whether it is right.
func label(a api.Auto, s string) int {
	columns := len(a.Next) / len(a.Out)
	state := 0
	for i := range len(s) {
		state = a.Next[state*columns+int(a.Bytes[s[i]])]
	}
	return a.Out[state]
}

// isOnePath: is a path its own one form?
func isOnePath(s string) int {
	if p, is := wordsPath(s); is && p == s {
		return 1
	}
	return 0
}

func isOneValue(s string) int {
	for i := range len(s) {
		if s[i] < 32 || s[i] > 126 {
			return 0
		}
	}
	if strings.Trim(s, " ") != s {
		return 0
	}
	return 1
}

func TestAutosAreRight(t *testing.T) {
	for name, a := range map[string]api.Auto{"Paths": request.Paths(), "Values": request.Values()} {
		if !auto.Right(a) {
			t.Errorf("%s is not right", name)
		}
	}
	if n, m := len(request.Paths().Out), len(request.Values().Out); n != 14 || m != 4 {
		t.Errorf("%d and %d states", n, m)
	}
	if s, is, e := auto.Shortest(request.Paths(), 1); s != "/" || !is || e != api.OK {
		t.Errorf("the least path: %q", s)
	}
	if s, is, e := auto.Shortest(request.Values(), 1); s != "" || !is || e != api.OK {
		t.Errorf("the least value: %q", s)
	}
}

func TestAutosExamples(t *testing.T) {
	paths, values := request.Paths(), request.Values()
	for s, want := range map[string]int{"/": 1, "/a/%2F": 1, "/...": 1, "": 0, "/a/": 0, "//": 0, "/%2f": 0, "/%41": 0, "/a/..": 0} {
		if n, e := auto.Run(paths, s); n != want || e != api.OK {
			t.Errorf("path %q: %d %d", s, n, e)
		}
	}
	for s, want := range map[string]int{"": 1, "a b": 1, " a": 0, "a ": 0, " ": 0, "\x00": 0, "~": 1, "\x7f": 0, "a\x80": 0, "a  b": 1} {
		if n, e := auto.Run(values, s); n != want || e != api.OK {
			t.Errorf("value %q: %d %d", s, n, e)
		}
	}
}

// A way into each state, then each byte, then what tells states apart: with the number of states this holds an automaton whole.
func TestPathsWhole(t *testing.T) {
	a := request.Paths()
	ways := []string{"", "/", "/.", "/..", "/a", "/a/", "/%", "/%0", "/%2", "/%3", "/%4", "/%5", "/%6", "/%7", "/%8", "/%F", "a", "/a/.", "/a/..", "/a/%", "/%2F", "/...", "/a/a", "/%2f"}
	ends := []string{"", "/", "a", ".", "..", "./a", "/a", "0", "A", "B", "D", "E", "F", "00", "2F", "2E", "3A", "39", "40", "41", "5B", "5A", "5F", "60", "7A", "7E", "7F", "%2F"}
	for _, way := range ways {
		for b := range 256 {
			for _, end := range ends {
				s := way + string([]byte{byte(b)}) + end
				if n := label(a, s); n != isOnePath(s) {
					t.Fatalf("%q: %d", s, n)
				}
			}
		}
	}
	for n := range 65536 {
		s := "/a%" + string([]byte{byte(n >> 8), byte(n)})
		if got := label(a, s); got != isOnePath(s) {
			t.Fatalf("%q: %d", s, got)
		}
	}
}

func TestPathsRandom(t *testing.T) {
	a := request.Paths()
	r := rand.New(rand.NewSource(4))
	for range 20000 {
		s := randomPath(r)
		for _, s := range []string{s, disturbed(r, s)} {
			if n := label(a, s); n != isOnePath(s) {
				t.Fatalf("%q: %d", s, n)
			}
			if p, e := request.Path(s); e == api.OK && label(a, p) != 1 {
				t.Fatalf("%q: its one form %q has the label 0", s, p)
			}
		}
	}
}

func TestValuesWhole(t *testing.T) {
	a := request.Values()
	ends := []string{"", " ", "a", " a", "a ", "\x00", "  ", ",b"}
	for _, way := range []string{"", " ", "a", "a ", "a  ", "\x00", "\xff", " a", "~", "a a"} {
		for b := range 256 {
			for c := range 256 {
				s := way + string([]byte{byte(b), byte(c)})
				if n := label(a, s); n != isOneValue(s) {
					t.Fatalf("%q: %d", s, n)
				}
			}
			for _, end := range ends {
				s := way + string([]byte{byte(b)}) + end
				if n := label(a, s); n != isOneValue(s) {
					t.Fatalf("%q: %d", s, n)
				}
			}
		}
	}
}

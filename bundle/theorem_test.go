package bundle_test

import (
	"fmt"
	"math/rand"
	"testing"

	"lychgate/api"
	"lychgate/bundle"
	"lychgate/lower"
)

// Each image has one text, and is read from it whole.
func TestTheoremAtRandom(t *testing.T) {
	inParallel(t, func(t *testing.T, r *rand.Rand) {
		for range 12 {
			p := randomProgram(t, r)
			for _, i := range []api.Image{randomImage(t, r), sealed(t, p)} {
				s := encoded(t, i)
				if s != wordsText(i) {
					t.Fatalf("%q; want %q", s, wordsText(i))
				}
				j, e := bundle.Decode(s)
				if e != api.OK || !bundle.Right(j) {
					t.Fatalf("Decode: error %d", e)
				}
				wantImage(t, "Decode of Encode", j, i)
				if u := encoded(t, j); u != s {
					t.Fatalf("Encode of Decode: %q; want %q", u, s)
				}
			}
			// What was read judges as the program does.
			i, _ := bundle.Decode(encoded(t, sealed(t, p)))
			for range 4 {
				q := pick(r, randomRequest(r), leastOf(t, r, p.Space))
				want, _ := lower.Judge(p, 0, q)
				wantJudge(t, i, q, want)
			}
		}
	})
}

// Unlike images have unlike texts.
func TestTextsAreUnlike(t *testing.T) {
	met := map[string]string{}
	for _, source := range []string{"", "allow a when true;", "allow a when method in {GET};", "allow a when method in {PUT};", "allow a when port in {80};", "allow a when port in {81};", "allow a when not port in {80};", `allow a when has "k";`, `allow a when has "l";`, `allow a when header "k" ~ "a";`, `allow a when path ~ "/a";`, several} {
		for k := range 4 {
			i := image(t, source)
			i.Order[0], i.Order[k] = i.Order[k], i.Order[0]
			if !bundle.Right(i) {
				continue
			}
			s, what := encoded(t, i), fmt.Sprint(source, i.Order)
			if ahead, is := met[s]; is && ahead != what {
				t.Errorf("%s and %s have one text", ahead, what)
			}
			met[s] = what
		}
	}
	if len(met) < 20 {
		t.Errorf("%d texts", len(met))
	}
}

// turned has bits turned, from one on, the lowest bit of a byte the first one.
func turned(s string, from int, bits uint32) string {
	b := []byte(s)
	for k := range 32 {
		if at := from + k; bits>>k&1 == 1 && at < 8*len(b) {
			b[at/8] ^= 1 << (at % 8)
		}
	}
	return string(b)
}

// Bits that lie within 32 side by side are turned, in the check or ahead of it or in both.
func TestTurnedBitsAreSeen(t *testing.T) {
	inParallel(t, func(t *testing.T, r *rand.Rand) {
		s := encoded(t, randomImage(t, r))
		for from := range 8 * len(s) {
			for _, bits := range []uint32{1, 3, 1<<31 | 1, 1<<32 - 1, r.Uint32() | 1} {
				wantNoImage(t, fmt.Sprintf("the bits %x from %d on", bits, from), turned(s, from, bits))
			}
		}
		// About the end, where the check begins, more of them.
		for range 3000 {
			wantNoImage(t, "about the check", turned(s, 8*(len(s)-9)+r.Intn(72), r.Uint32()|1))
		}
	})
}

// What is told hangs on nothing but what is handed in: not on calls ahead.
func TestCallsAreTheSameAgain(t *testing.T) {
	r := rand.New(rand.NewSource(21))
	p, i := randomProgram(t, r), image(t, several)
	first := tell([]any{sealed(t, p), encoded(t, i), wordsJudge(t, i, api.Request{Method: "GET", Path: "/"})})
	for range 5 {
		bundle.Seal(program(t, several), r.Intn(9))
		bundle.Decode(checked(body(encoded(t, i)) + "\x00"))
		bundle.Judge(image(t, "allow a when true;"), api.Request{Port: -1})
		bundle.Encode(api.Image{Root: 1})
		v, _ := bundle.Judge(i, api.Request{Method: "GET", Path: "/"})
		if again := tell([]any{sealed(t, p), encoded(t, i), v}); again != first {
			t.Fatalf("%s\nwant %s", again, first)
		}
	}
}

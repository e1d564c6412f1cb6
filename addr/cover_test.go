package addr_test

import (
	"math"
	"math/rand"
	"slices"
	"sync"
	"testing"

	"lychgate/addr"
	"lychgate/api"
	"lychgate/span"
)

// spans are made of their ends: lo, hi, lo, hi.
func spans(ends ...int) []api.Span {
	var out []api.Span
	for i := 0; i+1 < len(ends); i += 2 {
		out = append(out, api.Span{Lo: ends[i], Hi: ends[i+1]})
	}
	return out
}

// prefixes are made of their addresses and bits: addr, bits, addr, bits.
func prefixes(l ...int) []api.Prefix {
	var out []api.Prefix
	for i := 0; i+1 < len(l); i += 2 {
		out = append(out, api.Prefix{Addr: l[i], Bits: l[i+1]})
	}
	return out
}

func wantCover(t *testing.T, l []api.Span, want []api.Prefix) {
	t.Helper()
	if got, e := addr.Cover(l); e != api.OK || !slices.Equal(got, want) {
		t.Errorf("Cover of %v: %v, error %d; want %v", l, got, e, want)
	}
}

// halved is the cover found from above: all of a prefix, nothing of it, or what its halves have.
func halved(l []api.Span, p api.Prefix) []api.Prefix {
	lo, hi := p.Addr, p.Addr+sizeOf(p.Bits)-1
	var meets []api.Span
	for _, s := range l {
		if s.Lo <= lo && hi <= s.Hi {
			return []api.Prefix{p}
		}
		if s.Lo <= hi && lo <= s.Hi {
			meets = append(meets, s)
		}
	}
	if len(meets) == 0 {
		return nil
	}
	left := halved(meets, api.Prefix{Addr: lo, Bits: p.Bits + 1})
	return append(left, halved(meets, api.Prefix{Addr: lo + sizeOf(p.Bits+1), Bits: p.Bits + 1})...)
}

// randomSet has some spans whose ends are often beside a power of two, or are a bound.
func randomSet(r *rand.Rand) []api.Span {
	var l []api.Span
	for range r.Intn(6) {
		a, b := randomWord(r), randomWord(r)
		if r.Intn(2) == 0 {
			b = min(a+r.Intn(70), api.MaxWord)
		}
		l = append(l, api.Span{Lo: min(a, b), Hi: max(a, b)})
	}
	set, _ := span.Make(l)
	return set
}

func randomWord(r *rand.Rand) int {
	switch r.Intn(4) {
	case 0:
		return []int{0, api.MaxWord, 1 << 31, 1<<31 - 1}[r.Intn(4)]
	case 1:
		n := int(r.Uint32()) >> r.Intn(32) << r.Intn(32) & api.MaxWord
		return min(max(n+r.Intn(3)-1, 0), api.MaxWord)
	}
	return int(r.Uint32())
}

// isLeast looks at a cover by the words of A4 and A5 alone.
func isLeast(t *testing.T, set []api.Span, cover []api.Prefix) {
	t.Helper()
	var ranges []api.Span
	for i, p := range cover {
		s, e := addr.Range(p)
		if e != api.OK {
			t.Fatalf("Cover of %v: %v is not right", set, p)
		}
		ranges = append(ranges, s)
		if i == 0 {
			continue
		}
		q := cover[i-1]
		if s.Lo <= ranges[i-1].Hi {
			t.Errorf("Cover of %v: %v and %v overlap, or do not rise", set, q, p)
		}
		if p.Bits == q.Bits && p.Addr^q.Addr == sizeOf(p.Bits) {
			t.Errorf("Cover of %v: %v and %v are halves of one", set, q, p)
		}
	}
	if whole, e := span.Make(ranges); e != api.OK || !slices.Equal(whole, set) {
		t.Errorf("Cover of %v has %v", set, whole)
	}
}

func TestExamplesOfCovers(t *testing.T) {
	wantCover(t, spans(1, 6), prefixes(1, 32, 2, 31, 4, 31, 6, 32))
	wantCover(t, spans(0, 4294967295), prefixes(0, 0))
	wantCover(t, nil, nil)
	wantCover(t, []api.Span{}, nil)
	wantCover(t, spans(0, 2147483648), prefixes(0, 1, 2147483648, 32))
}

func TestCoversAtTheBounds(t *testing.T) {
	wantCover(t, spans(0, 0), prefixes(0, 32))
	wantCover(t, spans(api.MaxWord, api.MaxWord), prefixes(api.MaxWord, 32))
	wantCover(t, spans(0, 0, api.MaxWord, api.MaxWord), prefixes(0, 32, api.MaxWord, 32))
	wantCover(t, spans(1<<31, api.MaxWord), prefixes(1<<31, 1))
	wantCover(t, spans(1<<31-1, 1<<31), prefixes(1<<31-1, 32, 1<<31, 32))
	wantCover(t, spans(0, 0, 2, 2), prefixes(0, 32, 2, 32))
	wantCover(t, spans(0, 0, 8, 15), prefixes(0, 32, 8, 29))
}

func TestCoverOfTheGreatestSpan(t *testing.T) {
	var want []api.Prefix
	for bits := 32; bits > 1; bits-- {
		want = append(want, api.Prefix{Addr: sizeOf(bits), Bits: bits})
	}
	for bits := 2; bits <= 32; bits++ {
		want = append(want, api.Prefix{Addr: 1<<32 - 2*sizeOf(bits), Bits: bits})
	}
	wantCover(t, spans(1, api.MaxWord-1), want)
}

func TestCoverOfEachPrefixIsThatPrefix(t *testing.T) {
	for _, n := range words() {
		for bits := range 33 {
			p := api.Prefix{Addr: n / sizeOf(bits) * sizeOf(bits), Bits: bits}
			wantCover(t, spans(p.Addr, p.Addr+sizeOf(bits)-1), []api.Prefix{p})
		}
	}
}

func TestCoversOfAllSpansOfAWindow(t *testing.T) {
	for _, from := range []int{0, 1<<31 - 16, 1<<32 - 33} {
		for lo := range 33 {
			for hi := lo; hi < 33; hi++ {
				set := spans(from+lo, from+hi)
				wantCover(t, set, halved(set, api.Prefix{}))
			}
		}
	}
}

func TestCoversOfAllSetsOfAFewNumbers(t *testing.T) {
	for _, from := range []int{0, 1<<31 - 3, 1<<32 - 9} {
		for marks := range 1 << 9 {
			var l []api.Span
			for i := range 9 {
				if marks>>i&1 == 1 {
					l = append(l, api.Span{Lo: from + i, Hi: from + i})
				}
			}
			set, _ := span.Make(l)
			wantCover(t, set, halved(set, api.Prefix{}))
		}
	}
}

func TestCoversOfRandomSets(t *testing.T) {
	r := rand.New(rand.NewSource(30))
	for range 3000 {
		set := randomSet(r)
		cover, e := addr.Cover(set)
		if e != api.OK {
			t.Fatalf("Cover of %v: error %d", set, e)
		}
		isLeast(t, set, cover)
		if want := halved(set, api.Prefix{}); !slices.Equal(cover, want) {
			t.Errorf("Cover of %v: %v; want %v", set, cover, want)
		}
	}
}

func TestCoverRefusesWhatIsNoSet(t *testing.T) {
	for _, l := range [][]api.Span{
		spans(1, 2, 3, 4),
		spans(1, 2, 2, 4),
		spans(1, 4, 2, 3),
		spans(5, 6, 1, 2),
		spans(1, 2, 1, 2),
		spans(2, 1),
		spans(-1, 4),
		spans(-4, -1),
		spans(0, api.MaxWord+1),
		spans(api.MaxWord+1, api.MaxWord+1),
		spans(0, math.MaxInt),
		spans(math.MinInt, math.MaxInt),
		spans(math.MinInt, math.MinInt),
		spans(math.MaxInt, math.MaxInt),
		spans(0, 1, 3, 2),
		spans(0, 1, 4, 5, 6, 7),
	} {
		if p, e := addr.Cover(l); len(p) != 0 || e != api.ErrArg {
			t.Errorf("Cover of %v: %v, error %d; want ErrArg and nothing", l, p, e)
		}
	}
}

func TestCoverIsNewMemory(t *testing.T) {
	in := spans(1, 6, 8, 8, -7, -8)
	l := in[:2]
	got, _ := addr.Cover(l)
	if !slices.Equal(in, spans(1, 6, 8, 8, -7, -8)) {
		t.Errorf("Cover wrote into what came in: %v", in)
	}
	want := slices.Clone(got)
	in[0], in[1] = api.Span{}, api.Span{}
	if !slices.Equal(got, want) {
		t.Error("Cover shares with what came in")
	}
	clear(got[:cap(got)])
	wantCover(t, spans(1, 6, 8, 8), want)
}

func TestCallsDoNotDisturbOneAnother(t *testing.T) {
	var wg sync.WaitGroup
	for seed := range 8 {
		wg.Go(func() {
			r := rand.New(rand.NewSource(int64(seed)))
			for range 100 {
				set := randomSet(r)
				wantCover(t, set, halved(set, api.Prefix{}))
				n := randomWord(r)
				wantParse(t, spelt(n), n)
				wantPrint(t, n, spelt(n))
			}
		})
	}
	wg.Wait()
}

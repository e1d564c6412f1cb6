package addr_test

import (
	"fmt"
	"math"
	"strings"
	"testing"

	"lychgate/addr"
	"lychgate/api"
)

// sizeOf is how many addresses a prefix of so many bits has.
func sizeOf(bits int) int { return 1 << (32 - bits) }

// wrongPrefixes are not right: by their bits, by their address, or by what stands behind the first bits.
func wrongPrefixes() []api.Prefix {
	out := []api.Prefix{{Addr: 167772161, Bits: 8}, {Addr: 1 << 31, Bits: 0}, {Addr: api.MaxWord, Bits: 31}, {Addr: 1, Bits: 31}, {Addr: 1, Bits: 0}}
	for _, bits := range []int{-1, 33, 64, 255, 256, 288, math.MinInt, math.MaxInt} {
		out = append(out, api.Prefix{Bits: bits}, api.Prefix{Addr: api.MaxWord, Bits: bits}, api.Prefix{Addr: -1, Bits: bits})
	}
	for _, n := range noWords() {
		for _, bits := range []int{0, 1, 8, 31, 32} {
			out = append(out, api.Prefix{Addr: n, Bits: bits})
		}
	}
	for bits := range 32 {
		for behind := range 32 - bits {
			out = append(out, api.Prefix{Addr: 1 << behind, Bits: bits}, api.Prefix{Addr: api.MaxWord&^(sizeOf(bits)-1) | 1<<behind, Bits: bits})
		}
	}
	return out
}

func TestPrefixesOfAllSizes(t *testing.T) {
	for _, n := range words() {
		for bits := range 33 {
			first := n / sizeOf(bits) * sizeOf(bits)
			p := api.Prefix{Addr: first, Bits: bits}
			s := fmt.Sprintf("%s/%d", spelt(first), bits)
			if got, e := addr.ParsePrefix(s); got != p || e != api.OK {
				t.Errorf("ParsePrefix of %q: %v, error %d", s, got, e)
			}
			if got, e := addr.PrintPrefix(p); got != s || e != api.OK {
				t.Errorf("PrintPrefix of %v: %q, error %d; want %q", p, got, e, s)
			}
			want := api.Span{Lo: first, Hi: first + sizeOf(bits) - 1}
			if got, e := addr.Range(p); got != want || e != api.OK {
				t.Errorf("Range of %v: %v, error %d; want %v", p, got, e, want)
			}
		}
	}
}

func TestAddressesAreReadAsPrefixesOfAllBits(t *testing.T) {
	for _, n := range words() {
		p := api.Prefix{Addr: n, Bits: 32}
		if got, e := addr.ParsePrefix(spelt(n)); got != p || e != api.OK {
			t.Errorf("ParsePrefix of %q: %v, error %d", spelt(n), got, e)
		}
		if got, e := addr.PrintPrefix(p); got != spelt(n)+"/32" || e != api.OK {
			t.Errorf("PrintPrefix of %v: %q, error %d", p, got, e)
		}
	}
}

func TestExamplesOfPrefixes(t *testing.T) {
	for s, want := range map[string]api.Prefix{
		"10.0.0.0/8": {Addr: 167772160, Bits: 8},
		"10.0.0.1":   {Addr: 167772161, Bits: 32},
		"0.0.0.0/0":  {},
	} {
		if p, e := addr.ParsePrefix(s); p != want || e != api.OK {
			t.Errorf("ParsePrefix of %q: %v, error %d; want %v", s, p, e, want)
		}
	}
	if s, e := addr.PrintPrefix(api.Prefix{Addr: 167772161, Bits: 32}); s != "10.0.0.1/32" || e != api.OK {
		t.Errorf("PrintPrefix: %q, error %d", s, e)
	}
	for p, want := range map[api.Prefix]api.Span{
		{Addr: 167772160, Bits: 8}: {Lo: 167772160, Hi: 184549375},
		{}:                         {Lo: 0, Hi: 4294967295},
	} {
		if r, e := addr.Range(p); r != want || e != api.OK {
			t.Errorf("Range of %v: %v, error %d; want %v", p, r, e, want)
		}
	}
}

func TestParsePrefixRefusesWhatIsNone(t *testing.T) {
	texts := noAddresses()
	for _, s := range noAddresses() {
		texts = append(texts, s+"/32", s+"/0")
	}
	for _, bits := range []string{"", "00", "01", "08", "032", "33", "40", "64", "99", "100", "320", "256", "288", "+8", "-8", "-0", " 8", "8 ", "8/", "/8", "8/8", "8.0", "a", "0x8", "8\x00", "٣", "4294967304", "18446744073709551624", strings.Repeat("9", 300), strings.Repeat("0", 300)} {
		texts = append(texts, "0.0.0.0/"+bits, "10.0.0.0/"+bits)
	}
	texts = append(texts, "/", "/8", "/0", "//", "0.0.0.0 /0", "10.0.0.1/8", "128.0.0.0/0", "255.255.255.255/31", "0.0.0.1/0", "1.2.3.4/1.2.3.4", "8/10.0.0.0")
	for _, s := range texts {
		if p, e := addr.ParsePrefix(s); p != (api.Prefix{}) || e != api.ErrAddrForm {
			t.Errorf("ParsePrefix of %.40q: %v, error %d; want ErrAddrForm and nothing", s, p, e)
		}
	}
}

func TestParsePrefixRefusesTextsOfPrefixesThatAreNotRight(t *testing.T) {
	for _, p := range wrongPrefixes() {
		if p.Addr < 0 || p.Addr > api.MaxWord {
			continue
		}
		s := fmt.Sprintf("%s/%d", spelt(p.Addr), p.Bits)
		if got, e := addr.ParsePrefix(s); got != (api.Prefix{}) || e != api.ErrAddrForm {
			t.Errorf("ParsePrefix of %q: %v, error %d; want ErrAddrForm and nothing", s, got, e)
		}
	}
}

func TestPrefixesThatAreNotRightAreRefused(t *testing.T) {
	for _, p := range wrongPrefixes() {
		if s, e := addr.PrintPrefix(p); s != "" || e != api.ErrArg {
			t.Errorf("PrintPrefix of %v: %q, error %d; want ErrArg and nothing", p, s, e)
		}
		if r, e := addr.Range(p); r != (api.Span{}) || e != api.ErrArg {
			t.Errorf("Range of %v: %v, error %d; want ErrArg and nothing", p, r, e)
		}
	}
}

package addr_test

import (
	"fmt"
	"math"
	"math/rand"
	"strings"
	"testing"

	"lychgate/addr"
	"lychgate/api"
)

// words are addresses at which a number of the four begins or ends, and the ones beside them.
func words() []int {
	out := []int{0, api.MaxWord, 167772415, 16909060}
	for shift := range 32 {
		for _, n := range []int{1<<shift - 1, 1 << shift, 1<<shift + 1, api.MaxWord - 1<<shift} {
			out = append(out, n)
		}
	}
	r := rand.New(rand.NewSource(3))
	for range 500 {
		out = append(out, int(r.Uint32()))
	}
	return out
}

// noWords are numbers that are no addresses.
func noWords() []int {
	return []int{-1, -255, -api.MaxWord, api.MaxWord + 1, api.MaxWord + 256, 1 << 40, math.MaxInt, math.MinInt}
}

// spelt is an address's text by the document's words: four numbers, the first one the highest.
func spelt(n int) string {
	return fmt.Sprintf("%d.%d.%d.%d", n/(1<<24), n/(1<<16)%256, n/(1<<8)%256, n%256)
}

// noAddresses are texts that are no address's and, by a slash behind them, no prefix's.
func noAddresses() []string {
	out := []string{
		"", " ", ".", "...", "....", "1", "1.2", "1.2.3", "1.2.3.4.5", "1.2.3.4.", ".1.2.3.4", "1.2.3.", ".2.3.4", "1..3.4", "1.2..4",
		"1.2.3.4 ", " 1.2.3.4", "1. 2.3.4", "1.2.3.4\n", "1.2.3.4\x00", "\x001.2.3.4", "1,2,3,4", "1.2.3,4", "1:2:3:4",
		"a.b.c.d", "1.2.3.a", "0x1.2.3.4", "1e1.2.3.4", "1_0.2.3.4", "1.2.3.4a", "٣.2.3.4", "１.2.3.4",
		"16909060", "1.2.772", "::1", "\xff.2.3.4",
		"99999999999999999999.1.1.1", "18446744073709551617.2.3.4", "4294967297.2.3.4",
		"1.2.3." + strings.Repeat("0", 300), "1.2.3." + strings.Repeat("1", 300), strings.Repeat("1.", 100000), strings.Repeat(".", 100000),
	}
	for place := range 4 {
		for _, part := range []string{"", "00", "01", "000", "001", "0255", "256", "257", "260", "300", "512", "999", "1000", "2550", "+1", "-1", "-0", "+0", " 1", "1 ", "1/", "x", ":", "/"} {
			parts := []string{"1", "2", "3", "4"}
			parts[place] = part
			out = append(out, strings.Join(parts, "."))
		}
	}
	return out
}

func wantParse(t *testing.T, s string, want int) {
	t.Helper()
	if n, e := addr.Parse(s); n != want || e != api.OK {
		t.Errorf("Parse of %q: %d, error %d; want %d", s, n, e, want)
	}
}

func wantPrint(t *testing.T, n int, want string) {
	t.Helper()
	if s, e := addr.Print(n); s != want || e != api.OK {
		t.Errorf("Print of %d: %q, error %d; want %q", n, s, e, want)
	}
}

func TestParseAndPrintAreEachOthersInverse(t *testing.T) {
	for _, n := range words() {
		wantPrint(t, n, spelt(n))
		wantParse(t, spelt(n), n)
	}
}

func TestEachNumberAtEachPlace(t *testing.T) {
	for place := range 4 {
		for b := range 256 {
			n := 0x07070707&^(255<<(8*place)) | b<<(8*place)
			wantPrint(t, n, spelt(n))
			wantParse(t, spelt(n), n)
		}
	}
}

func TestExamplesOfAddresses(t *testing.T) {
	for s, n := range map[string]int{"10.0.0.255": 167772415, "0.0.0.0": 0, "255.255.255.255": 4294967295, "1.2.3.4": 16909060} {
		wantParse(t, s, n)
		wantPrint(t, n, s)
	}
}

func TestParseRefusesWhatIsNoAddress(t *testing.T) {
	for _, s := range append(noAddresses(), "1.2.3.4/32", "1.2.3.4/", "10.0.0.0/8", "0.0.0.0/0") {
		if n, e := addr.Parse(s); n != 0 || e != api.ErrAddrForm {
			t.Errorf("Parse of %.40q: %d, error %d; want ErrAddrForm and 0", s, n, e)
		}
	}
}

func TestParseOfOneByteChanged(t *testing.T) {
	const text = "10.0.200.255"
	for i := range len(text) {
		for b := range 256 {
			s := text[:i] + string([]byte{byte(b)}) + text[i+1:]
			n, e := addr.Parse(s)
			if e == api.OK && spelt(n) != s || e != api.OK && (n != 0 || e != api.ErrAddrForm) {
				t.Errorf("Parse of %q: %d, error %d", s, n, e)
			}
		}
	}
}

func TestPrintRefusesWhatIsNoWord(t *testing.T) {
	for _, n := range noWords() {
		if s, e := addr.Print(n); s != "" || e != api.ErrArg {
			t.Errorf("Print of %d: %q, error %d; want ErrArg and nothing", n, s, e)
		}
	}
}

// Whatever is accepted is the text that Print gives: so each address has one text.
func FuzzTextsAreReadExactly(f *testing.F) {
	for _, s := range []string{"", "10.0.0.255", "10.0.0.0/8", "01.2.3.4", "0.0.0.0/0", "1.2.3.4/032"} {
		f.Add(s)
	}
	f.Fuzz(func(t *testing.T, s string) {
		if n, e := addr.Parse(s); e == api.OK {
			wantPrint(t, n, s)
		}
		p, e := addr.ParsePrefix(s)
		if e != api.OK {
			return
		}
		back, e := addr.PrintPrefix(p)
		if e != api.OK || back != s && back != s+"/32" {
			t.Errorf("%q is read as %v, printed as %q, error %d", s, p, back, e)
		}
	})
}

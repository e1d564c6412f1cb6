package codec_test

import (
	"hash/crc32"
	"math/rand"
	"strings"
	"testing"

	"lychgate/codec"
)

// plainSum is the document's own words for the check.
func plainSum(s string) uint32 {
	x := uint64(1<<32 - 1)
	for i := 0; i < len(s); i++ {
		x ^= uint64(s[i])
		for range 8 {
			if x%2 == 1 {
				x = (x-1)/2 ^ 0xedb88320
			} else {
				x /= 2
			}
		}
	}
	return uint32(x ^ (1<<32 - 1))
}

func randomText(r *rand.Rand, size int) string {
	b := make([]byte, size)
	r.Read(b)
	return string(b)
}

// C1, example 1.
func TestSumExamples(t *testing.T) {
	for _, x := range []struct {
		s    string
		want uint32
	}{
		{"", 0},
		{"123456789", 3421780262},
		{"a", 0xe8b7be43},
		{"\x00", 0xd202ef8d},
		{"\x00\x00\x00\x00", 0x2144df1c},
		{"\xff\xff\xff\xff", 0xffffffff},
		{"The quick brown fox jumps over the lazy dog", 0x414fa339},
	} {
		if n := codec.Sum(x.s); n != x.want {
			t.Errorf("%q: %x, not %x", x.s, n, x.want)
		}
	}
}

// C1, at every single byte and at texts of many lengths.
func TestSumIsTheCheck(t *testing.T) {
	r := rand.New(rand.NewSource(1))
	texts := []string{strings.Repeat("\x00", 1000), strings.Repeat("\xff", 1000)}
	for b := range 256 {
		texts = append(texts, string([]byte{byte(b)}), randomText(r, b))
	}
	for _, s := range texts {
		n := codec.Sum(s)
		if n != plainSum(s) || n != crc32.ChecksumIEEE([]byte(s)) {
			t.Errorf("%q: %x", s, n)
		}
	}
}

// turn turns the bits of mask in a text, from a bit on; the lowest bit of a byte is the first one.
func turn(s string, from int, mask uint32) string {
	b := []byte(s)
	for i := range 32 {
		if at := from + i; mask>>i&1 != 0 && at < 8*len(b) {
			b[at/8] ^= 1 << (at % 8)
		}
	}
	return string(b)
}

// C6, its last sentence: turned bits within 32 side by side are seen.
func TestSumSeesTurnedBits(t *testing.T) {
	r := rand.New(rand.NewSource(2))
	masks := []uint32{1, 3, 1 << 31, 1<<31 | 1, 1<<32 - 1, 0xedb88320}
	for range 40 {
		masks = append(masks, r.Uint32())
	}
	for size := range 24 {
		s := randomText(r, size)
		for from := range 8 * size {
			for _, mask := range masks {
				u := turn(s, from, mask)
				if u != s && codec.Sum(u) == codec.Sum(s) {
					t.Fatalf("%q and %q have one check", s, u)
				}
			}
		}
	}
}

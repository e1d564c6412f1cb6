package codec_test

import (
	"math"
	"strings"
	"testing"

	"lychgate/api"
	"lychgate/codec"
)

// wrote is what a new Writer holds behind some calls.
func wrote(most int, does ...func(w *codec.Writer)) (string, api.Errno) {
	w := codec.NewWriter(most)
	for _, f := range does {
		f(w)
	}
	return w.Done()
}

func num(size, n int) func(w *codec.Writer) { return func(w *codec.Writer) { w.Num(size, n) } }
func text(s string) func(w *codec.Writer)   { return func(w *codec.Writer) { w.Text(s) } }
func raw(s string) func(w *codec.Writer)    { return func(w *codec.Writer) { w.Raw(s) } }

// C2, example 2.
func TestWriterLaysDown(t *testing.T) {
	s, e := wrote(20, num(2, 258), text("hi"), num(1, 7), raw("z"))
	if s != "\x01\x02\x00\x02hi\x07z" || e != api.OK {
		t.Errorf("%q %d", s, e)
	}
}

// C2: a number that just fits into so many bytes, and one that just does not.
func TestWriterNumEdges(t *testing.T) {
	for size := 1; size <= 8; size++ {
		most := math.MaxInt
		if size < 8 {
			most = 1<<(8*size) - 1
			if s, e := wrote(99, num(size, most+1)); s != "" || e != api.ErrCodecRange {
				t.Errorf("%d by %d bytes: %q %d", most+1, size, s, e)
			}
		}
		full := strings.Repeat("\xff", size)
		if size == 8 {
			full = "\x7f" + full[1:]
		}
		if s, e := wrote(99, num(size, most)); s != full || e != api.OK {
			t.Errorf("%d by %d bytes: %q %d", most, size, s, e)
		}
		if s, e := wrote(99, num(size, 0)); s != strings.Repeat("\x00", size) || e != api.OK {
			t.Errorf("0 by %d bytes: %q %d", size, s, e)
		}
		for _, n := range []int{-1, -256, math.MinInt} {
			if s, e := wrote(99, num(size, n)); s != "" || e != api.ErrCodecRange {
				t.Errorf("%d by %d bytes: %q %d", n, size, s, e)
			}
		}
	}
	if s, e := wrote(8, num(8, 0x0102030405060708)); s != "\x01\x02\x03\x04\x05\x06\x07\x08" || e != api.OK {
		t.Errorf("highest byte first: %q %d", s, e)
	}
}

// C2: sizes that may not be, whatever the number is.
func TestWriterNumSizes(t *testing.T) {
	for _, size := range []int{0, 9, -1, 64, math.MinInt, math.MaxInt} {
		for _, n := range []int{0, 1, -1, math.MaxInt} {
			if s, e := wrote(99, num(size, n)); s != "" || e != api.ErrCodecRange {
				t.Errorf("%d by %d bytes: %q %d", n, size, s, e)
			}
		}
	}
}

// C2: the longest text, and one byte more.
func TestWriterTextEdges(t *testing.T) {
	long := strings.Repeat("t", 65535)
	if s, e := wrote(1<<20, text(long)); s != "\xff\xff"+long || e != api.OK {
		t.Errorf("65535 bytes: %d bytes, %d", len(s), e)
	}
	if s, e := wrote(1<<20, text(long+"t")); s != "" || e != api.ErrCodecLong {
		t.Errorf("65536 bytes: %d bytes, %d", len(s), e)
	}
	if s, e := wrote(1<<20, raw(long+"t")); s != long+"t" || e != api.OK {
		t.Errorf("Raw has no bound of its own: %d bytes, %d", len(s), e)
	}
	if s, e := wrote(2, text("")); s != "\x00\x00" || e != api.OK {
		t.Errorf("no bytes: %q %d", s, e)
	}
	if s, e := wrote(9, text("\x00\xff\n")); s != "\x00\x03\x00\xff\n" || e != api.OK {
		t.Errorf("any bytes: %q %d", s, e)
	}
}

// C2: as many bytes as may stand, and one more.
func TestWriterMost(t *testing.T) {
	for i, x := range []struct {
		most int
		does []func(w *codec.Writer)
		s    string
		e    api.Errno
	}{
		{3, []func(w *codec.Writer){num(2, 1), num(2, 1)}, "", api.ErrCodecLong},
		{4, []func(w *codec.Writer){num(2, 1), num(2, 1)}, "\x00\x01\x00\x01", api.OK},
		{3, []func(w *codec.Writer){num(3, 1), raw("a")}, "", api.ErrCodecLong},
		{3, []func(w *codec.Writer){num(3, 1), raw("")}, "\x00\x00\x01", api.OK},
		{4, []func(w *codec.Writer){text("hi")}, "\x00\x02hi", api.OK},
		{3, []func(w *codec.Writer){text("hi")}, "", api.ErrCodecLong},
		{1, []func(w *codec.Writer){text("")}, "", api.ErrCodecLong},
		{0, nil, "", api.OK},
		{0, []func(w *codec.Writer){raw("")}, "", api.OK},
		{0, []func(w *codec.Writer){raw("a")}, "", api.ErrCodecLong},
		{0, []func(w *codec.Writer){num(1, 0)}, "", api.ErrCodecLong},
		{-1, []func(w *codec.Writer){raw("")}, "", api.OK},
		{-1, []func(w *codec.Writer){raw("a")}, "", api.ErrCodecLong},
		{math.MinInt, []func(w *codec.Writer){raw("a")}, "", api.ErrCodecLong},
		{math.MinInt, []func(w *codec.Writer){raw(""), raw("")}, "", api.OK},
		{math.MaxInt, []func(w *codec.Writer){raw("a"), text("b")}, "a\x00\x01b", api.OK},
	} {
		if s, e := wrote(x.most, x.does...); s != x.s || e != x.e {
			t.Errorf("%d: %q %d", i, s, e)
		}
	}
}

// C2: too little room is behind all else that is wrong; what was wrong first is kept.
func TestWriterFirstWrong(t *testing.T) {
	for i, x := range []struct {
		does []func(w *codec.Writer)
		e    api.Errno
	}{
		{[]func(w *codec.Writer){num(4, -1)}, api.ErrCodecRange},
		{[]func(w *codec.Writer){num(9, 1)}, api.ErrCodecRange},
		{[]func(w *codec.Writer){num(4, 1), num(1, -1)}, api.ErrCodecLong},
		{[]func(w *codec.Writer){num(1, -1), num(4, 1)}, api.ErrCodecRange},
		{[]func(w *codec.Writer){num(0, 0), num(1, 1)}, api.ErrCodecRange},
		{[]func(w *codec.Writer){num(1, 256), raw("a"), text("b")}, api.ErrCodecRange},
		{[]func(w *codec.Writer){raw("abcd"), raw("a")}, api.ErrCodecLong},
		{[]func(w *codec.Writer){text("ab"), num(1, 1), num(0, 0)}, api.ErrCodecLong},
	} {
		if s, e := wrote(3, x.does...); s != "" || e != x.e {
			t.Errorf("%d: %q %d", i, s, e)
		}
	}
}

// C3: Done changes nothing, and one may go on.
func TestWriterDone(t *testing.T) {
	w := codec.NewWriter(5)
	if s, e := w.Done(); s != "" || e != api.OK {
		t.Errorf("nothing: %q %d", s, e)
	}
	w.Raw("ab")
	first, e := w.Done()
	if first != "ab" || e != api.OK {
		t.Errorf("two: %q %d", first, e)
	}
	w.Num(2, 258)
	for range 2 {
		if s, e := w.Done(); s != "ab\x01\x02" || e != api.OK {
			t.Errorf("four: %q %d", s, e)
		}
	}
	if first != "ab" {
		t.Errorf("what was told has changed: %q", first)
	}
	w.Raw("cd")
	for range 2 {
		if s, e := w.Done(); s != "" || e != api.ErrCodecLong {
			t.Errorf("too many: %q %d", s, e)
		}
		w.Num(0, 0)
		w.Raw("c")
	}
}

// Writers know nothing of one another.
func TestWritersApart(t *testing.T) {
	v, w := codec.NewWriter(4), codec.NewWriter(4)
	v.Raw("ab")
	w.Raw("cd")
	v.Num(1, -1)
	w.Raw("ef")
	if s, e := v.Done(); s != "" || e != api.ErrCodecRange {
		t.Errorf("%q %d", s, e)
	}
	if s, e := w.Done(); s != "cdef" || e != api.OK {
		t.Errorf("%q %d", s, e)
	}
}

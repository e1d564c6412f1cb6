package codec_test

import (
	"math"
	"strings"
	"testing"

	"lychgate/api"
	"lychgate/codec"
)

// C4, example 2 read back.
func TestReaderTakesUp(t *testing.T) {
	r := codec.NewReader("\x01\x02\x00\x02hi\x07z")
	lefts := []int{r.Left()}
	n := r.Num(2)
	lefts = append(lefts, r.Left())
	s := r.Text(2)
	lefts = append(lefts, r.Left())
	m := r.Num(1)
	lefts = append(lefts, r.Left())
	u := r.Raw(1)
	lefts = append(lefts, r.Left())
	if n != 258 || s != "hi" || m != 7 || u != "z" || r.Done() != api.OK {
		t.Errorf("%d %q %d %q %d", n, s, m, u, r.Done())
	}
	for i, want := range []int{8, 6, 2, 1, 0} {
		if lefts[i] != want {
			t.Errorf("left: %v", lefts)
		}
	}
}

// C4: numbers of all sizes, a byte too few, a byte too many.
func TestReaderNum(t *testing.T) {
	all := "\x01\x02\x03\x04\x05\x06\x07\x08"
	want := 0
	for size := 1; size <= 8; size++ {
		want = want<<8 | size
		r := codec.NewReader(all[:size])
		if n := r.Num(size); n != want || r.Left() != 0 || r.Done() != api.OK {
			t.Errorf("%d bytes: %d %d", size, n, r.Done())
		}
		r = codec.NewReader(all[:size-1])
		if n := r.Num(size); n != 0 || r.Left() != 0 || r.Done() != api.ErrCodecShort {
			t.Errorf("a byte too few of %d: %d %d", size, n, r.Done())
		}
		r = codec.NewReader(all[:size] + "z")
		if n := r.Num(size); n != want || r.Left() != 1 || r.Done() != api.ErrCodecMore {
			t.Errorf("a byte too many of %d: %d %d", size, n, r.Done())
		}
		if size < 8 {
			r = codec.NewReader(strings.Repeat("\xff", size))
			if n := r.Num(size); n != 1<<(8*size)-1 || r.Done() != api.OK {
				t.Errorf("the greatest of %d: %d %d", size, n, r.Done())
			}
		}
	}
}

// readerCase: a call on a Reader of some bytes, which gives nothing; what is wrong then.
type readerCase struct {
	s    string
	does func(r *codec.Reader) bool
	e    api.Errno
}

func readsNum(size int) func(r *codec.Reader) bool {
	return func(r *codec.Reader) bool { return r.Num(size) == 0 }
}
func readsText(most int) func(r *codec.Reader) bool {
	return func(r *codec.Reader) bool { return r.Text(most) == "" }
}
func readsRaw(n int) func(r *codec.Reader) bool {
	return func(r *codec.Reader) bool { return r.Raw(n) == "" }
}

// C4, C5, example 3: what is wrong, the first one that the promise names; nothing comes behind it.
func TestReaderWrong(t *testing.T) {
	eight := "\x80\x00\x00\x00\x00\x00\x00\x00"
	for i, x := range []readerCase{
		{eight, readsNum(8), api.ErrCodecRange},
		{strings.Repeat("\xff", 8), readsNum(8), api.ErrCodecRange},
		{eight[:7], readsNum(8), api.ErrCodecShort},
		{eight, readsNum(0), api.ErrCodecRange},
		{eight, readsNum(9), api.ErrCodecRange},
		{"", readsNum(9), api.ErrCodecRange},
		{"", readsNum(0), api.ErrCodecRange},
		{"", readsNum(1), api.ErrCodecShort},
		{eight, readsNum(-1), api.ErrCodecRange},
		{eight, readsNum(math.MinInt), api.ErrCodecRange},
		{eight, readsNum(math.MaxInt), api.ErrCodecRange},
		{"\x00\x03ab", readsText(2), api.ErrCodecLong},
		{"\x00\x03ab", readsText(3), api.ErrCodecShort},
		{"\x00\x03ab", readsText(-1), api.ErrCodecLong},
		{"\x00\x03ab", readsText(math.MaxInt), api.ErrCodecShort},
		{"\x00\x03abc", readsText(2), api.ErrCodecLong},
		{"\x00\x00", readsText(-1), api.ErrCodecLong},
		{"\x00\x00", readsText(math.MinInt), api.ErrCodecLong},
		{"", readsText(-1), api.ErrCodecShort},
		{"\x00", readsText(-1), api.ErrCodecShort},
		{"\x00", readsText(9), api.ErrCodecShort},
		{"ab", readsRaw(-1), api.ErrCodecRange},
		{"", readsRaw(-1), api.ErrCodecRange},
		{"ab", readsRaw(math.MinInt), api.ErrCodecRange},
		{"ab", readsRaw(3), api.ErrCodecShort},
		{"ab", readsRaw(math.MaxInt), api.ErrCodecShort},
	} {
		r := codec.NewReader(x.s)
		if !x.does(r) || r.Left() != 0 || r.Done() != x.e {
			t.Errorf("%d: left %d, %d", i, r.Left(), r.Done())
		}
		// Whatever is asked behind it, right or wrong, gives nothing and changes nothing.
		nothing := r.Num(1) == 0 && r.Num(9) == 0 && r.Text(9) == "" && r.Text(-1) == "" && r.Raw(1) == "" && r.Raw(0) == "" && r.Raw(-1) == ""
		if !nothing || r.Left() != 0 || r.Done() != x.e {
			t.Errorf("%d, behind it: left %d, %d", i, r.Left(), r.Done())
		}
	}
}

// C4: what was taken ahead of the wrong call stays told; what is wrong takes nothing with it.
func TestReaderWrongLater(t *testing.T) {
	r := codec.NewReader("\x01\x02abc")
	if n := r.Num(2); n != 258 {
		t.Errorf("%d", n)
	}
	if s := r.Raw(4); s != "" || r.Left() != 0 || r.Done() != api.ErrCodecShort {
		t.Errorf("%q %d %d", s, r.Left(), r.Done())
	}
	if s := r.Raw(3); s != "" {
		t.Errorf("behind it: %q", s)
	}
}

// C4: texts at their edges.
func TestReaderText(t *testing.T) {
	long := strings.Repeat("t", 65535)
	for i, x := range []struct {
		s    string
		most int
		want string
		left int
	}{
		{"\x00\x00", 0, "", 0},
		{"\x00\x00", math.MaxInt, "", 0},
		{"\x00\x00z", 0, "", 1},
		{"\x00\x03abc", 3, "abc", 0},
		{"\x00\x03abcd", 4, "abc", 1},
		{"\x00\x02\x00\xff", 2, "\x00\xff", 0},
		{"\xff\xff" + long, 65535, long, 0},
		{"\xff\xff" + long, 65536, long, 0},
	} {
		r := codec.NewReader(x.s)
		if s := r.Text(x.most); s != x.want || r.Left() != x.left || (r.Done() == api.OK) != (x.left == 0) {
			t.Errorf("%d: %d bytes, left %d, %d", i, len(s), r.Left(), r.Done())
		}
	}
	r := codec.NewReader("\xff\xff" + long)
	if s := r.Text(65534); s != "" || r.Done() != api.ErrCodecLong {
		t.Errorf("%d bytes, %d", len(s), r.Done())
	}
	r = codec.NewReader("\xff\xff" + long[1:])
	if s := r.Text(65535); s != "" || r.Done() != api.ErrCodecShort {
		t.Errorf("%d bytes, %d", len(s), r.Done())
	}
}

// C4: bytes as they are.
func TestReaderRaw(t *testing.T) {
	r := codec.NewReader("\x00\x03ab")
	if s := r.Raw(0); s != "" || r.Left() != 4 {
		t.Errorf("none: %q %d", s, r.Left())
	}
	if s := r.Raw(3); s != "\x00\x03a" || r.Left() != 1 {
		t.Errorf("three: %q %d", s, r.Left())
	}
	if s := r.Raw(1); s != "b" || r.Left() != 0 || r.Done() != api.OK {
		t.Errorf("the last one: %q %d", s, r.Left())
	}
	if s := r.Raw(0); s != "" || r.Done() != api.OK {
		t.Errorf("none at the end: %q %d", s, r.Done())
	}
}

// C5: Left and Done change nothing; bytes that are left are no error that is kept.
func TestReaderDone(t *testing.T) {
	r := codec.NewReader("\x01\x02")
	if n := r.Num(1); n != 1 {
		t.Errorf("%d", n)
	}
	for range 2 {
		if r.Left() != 1 || r.Done() != api.ErrCodecMore {
			t.Errorf("left %d, %d", r.Left(), r.Done())
		}
	}
	if s := r.Raw(1); s != "\x02" || r.Left() != 0 || r.Done() != api.OK || r.Done() != api.OK {
		t.Errorf("%q, left %d, %d", s, r.Left(), r.Done())
	}
	if r := codec.NewReader(""); r.Left() != 0 || r.Done() != api.OK {
		t.Errorf("of nothing: left %d, %d", r.Left(), r.Done())
	}
}

// Readers know nothing of one another.
func TestReadersApart(t *testing.T) {
	s := "abcd"
	q, r := codec.NewReader(s), codec.NewReader(s)
	q.Raw(5)
	if u := r.Raw(4); u != s || r.Done() != api.OK || q.Done() != api.ErrCodecShort {
		t.Errorf("%q %d %d", u, r.Done(), q.Done())
	}
}

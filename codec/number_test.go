package codec

import (
	"errors"
	"testing"

	"lychgate/api"
)

type word uint32

// goesRound: a number of a kind comes back by every size into which it fits, and is refused by all others.
func goesRound[T whole](t *testing.T, list ...T) {
	t.Helper()
	for _, n := range list {
		for size := -1; size <= 10; size++ {
			right := size >= 1 && size <= 8 && n >= 0 && uint64(n) <= 1<<63-1
			if right && size < 8 {
				right = uint64(n) < 1<<(8*size)
			}
			s, err := numberBytes(n, size)
			if right != (err == nil) {
				t.Errorf("%T %d by %d bytes: %v", n, n, size, err)
			}
			if err != nil {
				if s != "" || codeOf(err) != api.ErrCodecRange {
					t.Errorf("%T %d by %d bytes: %q, %v", n, n, size, s, err)
				}
				continue
			}
			m, err := firstNumber[T](s+"z", size)
			if len(s) != size || m != n || err != nil {
				t.Errorf("%T %d by %d bytes: %q, %d, %v", n, n, size, s, m, err)
			}
		}
	}
}

// Numbers of all kinds go one way.
func TestAllWholeNumbers(t *testing.T) {
	goesRound[int](t, 0, 1, 255, 256, 65535, 65536, 1<<32, 1<<63-1, -1, -1<<63)
	goesRound[int8](t, 0, 1, 127, -1, -128)
	goesRound[int16](t, 0, 255, 256, 1<<15-1, -1, -1<<15)
	goesRound[int32](t, 0, 65535, 65536, 1<<31-1, -1, -1<<31)
	goesRound[int64](t, 0, 1<<56-1, 1<<56, 1<<63-1, -1, -1<<63)
	goesRound[uint](t, 0, 255, 256, 1<<63-1, 1<<63, 1<<64-1)
	goesRound[uint8](t, 0, 1, 127, 128, 255)
	goesRound[uint16](t, 0, 255, 256, 65535)
	goesRound[uint32](t, 0, 1<<24-1, 1<<24, 1<<32-1)
	goesRound[uint64](t, 0, 1<<63-1, 1<<63, 1<<64-1)
	goesRound[uintptr](t, 0, 65536, 1<<63-1, 1<<63)
	goesRound[word](t, 0, 1<<32-1)
}

// A kind that holds less than the bytes say refuses them, instead of telling a part.
func TestNumberTooGreatForItsKind(t *testing.T) {
	if n, err := firstNumber[uint8]("\x01\x00", 2); n != 0 || codeOf(err) != api.ErrCodecRange {
		t.Errorf("uint8: %d %v", n, err)
	}
	if n, err := firstNumber[int8]("\x80", 1); n != 0 || codeOf(err) != api.ErrCodecRange {
		t.Errorf("int8: %d %v", n, err)
	}
	if n, err := firstNumber[int8]("\xff\x01", 2); n != 0 || codeOf(err) != api.ErrCodecRange {
		t.Errorf("int8: %d %v", n, err)
	}
	if n, err := firstNumber[uint64]("\x80\x00\x00\x00\x00\x00\x00\x00", 8); n != 0 || codeOf(err) != api.ErrCodecRange {
		t.Errorf("uint64: %d %v", n, err)
	}
}

type wrapped struct{ error }

func (w wrapped) Unwrap() error { return w.error }

// What is wrong is found by errors.As, however deep it lies.
func TestCodeOf(t *testing.T) {
	if e := codeOf(nil); e != api.OK {
		t.Errorf("none: %d", e)
	}
	if e := codeOf(wrapped{fault{api.ErrCodecShort}}); e != api.ErrCodecShort {
		t.Errorf("wrapped: %d", e)
	}
	var f fault
	if err := error(fault{api.ErrCodecMore}); !errors.As(err, &f) || f.code != api.ErrCodecMore || err.Error() != "codec: error 13" {
		t.Errorf("%v", f)
	}
}

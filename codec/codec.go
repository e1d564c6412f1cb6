// Package codec is layer 1: see shared/doc/01-codec.md.
package codec

import (
	"errors"
	"strconv"

	"lychgate/api"
)

const (
	maxText  = 65535 // bytes of a text: what its two bytes can say
	textHead = 2     // bytes that say how long a text is
	maxSize  = 8     // bytes of a number
	maxBits  = 63    // of a number: eight bytes could say more than an int holds
)

const polynomial = 0xedb88320

// Sum is the CRC-32 of bytes.
func Sum(s string) uint32 {
	x := ^uint32(0)
	for i := range len(s) {
		x = sumByte(x, s[i])
	}
	return ^x
}

func sumByte(x uint32, b byte) uint32 {
	x ^= uint32(b)
	for range 8 {
		odd := x&1 != 0
		x >>= 1
		if odd {
			x ^= polynomial
		}
	}
	return x
}

// fault is what was wrong first in a Writer or a Reader.
type fault struct {
	code api.Errno
}

// Error makes a fault an error, so that errors.As finds it again.
func (f fault) Error() string {
	return "codec: error " + strconv.Itoa(int(f.code))
}

// codeOf is what an error says to the outside; no error is OK.
func codeOf(err error) api.Errno {
	var f fault
	if errors.As(err, &f) {
		return f.code
	}
	return api.OK
}

// whole are all whole numbers: what goes in and what stands there are of several kinds.
type whole interface {
	~int | ~int8 | ~int16 | ~int32 | ~int64 | ~uint | ~uint8 | ~uint16 | ~uint32 | ~uint64 | ~uintptr
}

func sizeRight(size int) bool {
	return size >= 1 && size <= maxSize
}

// fits needs a size that is right.
func fits[T whole](n T, size int) bool {
	return n >= 0 && uint64(n)>>min(8*size, maxBits) == 0
}

// numberBytes is a number with its highest byte first.
func numberBytes[T whole](n T, size int) (string, error) {
	if !sizeRight(size) || !fits(n, size) {
		return "", fault{api.ErrCodecRange}
	}
	var b [maxSize]byte
	rest := uint64(n)
	for i := size - 1; i >= 0; i-- {
		b[i] = byte(rest)
		rest >>= 8
	}
	return string(b[:size]), nil
}

// firstNumber is the number that the first bytes say.
func firstNumber[T whole](s string, size int) (T, error) {
	if !sizeRight(size) {
		return 0, fault{api.ErrCodecRange}
	}
	if len(s) < size {
		return 0, fault{api.ErrCodecShort}
	}
	var all uint64
	for i := range size {
		all = all<<8 | uint64(s[i])
	}
	// The kind that is asked for may hold less than the bytes can say.
	n := T(all)
	if !fits(n, size) || uint64(n) != all {
		return 0, fault{api.ErrCodecRange}
	}
	return n, nil
}

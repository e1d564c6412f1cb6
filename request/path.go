package request

import (
	"bytes"
	"strings"
)

// isPlain: does a byte stand for itself in each path's one form?
func isPlain(b byte) bool {
	return isGreat(b) || isSmall(b) || isDigit(b) || strings.IndexByte("-._~", b) >= 0
}

// isPieceByte: may a byte stand in a piece of a written path as it is?
func isPieceByte(b byte) bool {
	return isPlain(b) || strings.IndexByte("!$&'()*+,;=:@", b) >= 0
}

const digitsOfSixteen = "0123456789ABCDEF"

// greatDigit is what a digit of sixteen that is in its one form says; -1, if b is none.
func greatDigit(b byte) int { return strings.IndexByte(digitsOfSixteen, b) }

// digit is what a digit of sixteen says.
func digit(b byte) int {
	if b >= 'a' && b <= 'f' {
		b -= 'a' - 'A'
	}
	n := greatDigit(b)
	must(n >= 0)
	return n
}

// onePath is the one form of a written path.
func onePath(s string) string {
	must(len(s) >= 1 && s[0] == '/')
	return folded(unescaped(s))
}

// unescaped is a written path in which just those bytes are escaped that are not plain, by great letters.
func unescaped(s string) []byte {
	out := make([]byte, 0, len(s))
	for i := 0; i < len(s); i++ {
		if s[i] != '%' {
			must(s[i] == '/' || isPieceByte(s[i]))
			out = append(out, s[i])
			continue
		}
		must(i+2 < len(s))
		high, low := digit(s[i+1]), digit(s[i+2])
		i += 2
		if b := byte(high<<4 | low); isPlain(b) {
			out = append(out, b)
		} else {
			out = append(out, '%', digitsOfSixteen[high], digitsOfSixteen[low])
		}
	}
	return out
}

// folded is a path without its empty pieces and those that are points.
func folded(path []byte) string {
	// It is written over path itself, since what is left is never longer than what was read.
	left := path[:0]
	for at := 0; at < len(path); {
		end := pieceEnd(path, at+1)
		switch piece := path[at+1 : end]; string(piece) {
		case "", ".":
		case "..":
			must(len(left) > 0)
			left = left[:bytes.LastIndexByte(left, '/')]
		default:
			left = append(append(left, '/'), piece...)
		}
		at = end
	}
	if len(left) == 0 {
		return "/"
	}
	return string(left)
}

// pieceEnd is the place behind the piece that begins at a place.
func pieceEnd(path []byte, from int) int {
	if n := bytes.IndexByte(path[from:], '/'); n >= 0 {
		return from + n
	}
	return len(path)
}

package codec

import (
	"strings"

	"lychgate/api"
)

// Reader takes them up again.
type Reader struct {
	rest  string
	wrong error
}

// NewReader is one over bytes.
func NewReader(s string) *Reader {
	return &Reader{rest: s}
}

// Num takes a number of so many bytes.
func (r *Reader) Num(size int) int {
	n, err := firstNumber[int](r.rest, size)
	if !r.take(size, err) {
		return 0
	}
	return n
}

// Text takes a text of at most so many bytes.
func (r *Reader) Text(most int) string {
	s, err := firstText(r.rest, most)
	if !r.take(textHead+len(s), err) {
		return ""
	}
	return s
}

// Raw takes so many bytes.
func (r *Reader) Raw(n int) string {
	s, err := firstBytes(r.rest, n)
	if !r.take(n, err) {
		return ""
	}
	return s
}

// Left is how many bytes are left.
func (r *Reader) Left() int {
	return len(r.rest)
}

// Done is the first error; bytes that are left are one.
func (r *Reader) Done() api.Errno {
	if r.wrong == nil && len(r.rest) > 0 {
		return api.ErrCodecMore
	}
	return codeOf(r.wrong)
}

// take drops what a call has read, unless something is wrong, now or from before.
func (r *Reader) take(n int, err error) bool {
	if r.wrong == nil {
		r.wrong = err
	}
	if r.wrong != nil {
		// Nothing is left behind what was wrong: no later call can take of it.
		r.rest = ""
		return false
	}
	r.rest = r.rest[n:]
	return true
}

func firstText(s string, most int) (string, error) {
	n, err := firstNumber[uint16](s, textHead)
	if err != nil {
		return "", err
	}
	if int(n) > most {
		return "", fault{api.ErrCodecLong}
	}
	return firstBytes(s[textHead:], int(n))
}

// firstBytes copies, so that a short answer does not keep all of what was read.
func firstBytes(s string, n int) (string, error) {
	if n < 0 {
		return "", fault{api.ErrCodecRange}
	}
	if len(s) < n {
		return "", fault{api.ErrCodecShort}
	}
	return strings.Clone(s[:n]), nil
}

package addr

import (
	"strconv"
	"strings"
)

// quad is an address as its four numbers, the highest one first.
type quad [4]byte

const allBits = 32

func quadOf(n int) quad {
	return quad{byte(n >> 24), byte(n >> 16), byte(n >> 8), byte(n)}
}

func (q quad) word() int {
	n := 0
	for _, b := range q {
		n = n<<8 | int(b)
	}
	return n
}

// mask has ones in its first bits, and nothing behind them.
func mask(bits int) quad {
	var m quad
	for i := range m {
		m[i] = ^(byte(0xff) >> max(bits-8*i, 0))
	}
	return m
}

// first is the first address that has the same first bits as q.
func (q quad) first(bits int) quad {
	m := mask(bits)
	for i := range q {
		q[i] &= m[i]
	}
	return q
}

// last is the last address that has the same first bits as q.
func (q quad) last(bits int) quad {
	m := mask(bits)
	for i := range q {
		q[i] |= ^m[i]
	}
	return q
}

// leads: is q the first address of a prefix of so many bits?
func (q quad) leads(bits int) bool { return q.first(bits) == q }

func (q quad) text() string {
	parts := make([]string, len(q))
	for i, b := range q {
		parts[i] = strconv.Itoa(int(b))
	}
	return strings.Join(parts, ".")
}

func readQuad(s string) (quad, bool) {
	var q quad
	// What is too much stands in the last part, which is no number then.
	parts := strings.SplitN(s, ".", len(q))
	if len(parts) != len(q) {
		return quad{}, false
	}
	for i, part := range parts {
		n, ok := readNumber(part, 255)
		if !ok {
			return quad{}, false
		}
		q[i] = byte(n)
	}
	return q, true
}

// readNumber reads a number from 0 to most, in decimal, without a 0 ahead.
func readNumber(s string, most int) (int, bool) {
	if s == "" || len(s) > 1 && s[0] == '0' {
		return 0, false
	}
	n := 0
	for i := range len(s) {
		if s[i] < '0' || s[i] > '9' {
			return 0, false
		}
		n = n*10 + int(s[i]-'0')
		if n > most {
			return 0, false
		}
	}
	return n, true
}

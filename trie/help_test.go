package trie_test

import (
	"math"
	"math/rand"
	"slices"
	"testing"

	"lychgate/addr"
	"lychgate/api"
	"lychgate/trie"
)

// sizeOf is how many addresses a prefix of so many bits has.
func sizeOf(bits int) int { return 1 << (32 - bits) }

func row(addr, bits, label int) api.Row {
	return api.Row{Prefix: api.Prefix{Addr: addr, Bits: bits}, Label: label}
}

// rowOf is a row by its prefix's text.
func rowOf(t *testing.T, s string, label int) api.Row {
	t.Helper()
	p, e := addr.ParsePrefix(s)
	if e != api.OK {
		t.Fatalf("%q is no prefix", s)
	}
	return api.Row{Prefix: p, Label: label}
}

func newTrie(t *testing.T, label int) *trie.Trie {
	t.Helper()
	x, e := trie.New(label)
	if x == nil || e != api.OK {
		t.Fatalf("New(%d): error %d", label, e)
	}
	return x
}

func makeTrie(t *testing.T, l []api.Row) *trie.Trie {
	t.Helper()
	x, e := trie.Make(l)
	if x == nil || e != api.OK {
		t.Fatalf("Make of %v: error %d", l, e)
	}
	return x
}

func put(t *testing.T, x *trie.Trie, r api.Row) {
	t.Helper()
	if e := x.Put(r.Prefix, r.Label); e != api.OK {
		t.Fatalf("Put of %v: error %d", r, e)
	}
}

func wantRows(t *testing.T, x *trie.Trie, want ...api.Row) {
	t.Helper()
	if got := x.Rows(); !slices.Equal(got, want) {
		t.Errorf("Rows: %v; want %v", got, want)
	}
}

func wantLabel(t *testing.T, x *trie.Trie, n, want int) {
	t.Helper()
	if got, e := x.Find(n); got != want || e != api.OK {
		t.Errorf("Find(%d): %d, error %d; want %d", n, got, e, want)
	}
}

func wrongLabels() []int {
	return []int{-1, -65535, 65536, 65537, 1 << 16 << 16, math.MinInt, math.MaxInt}
}

func wrongWords() []int {
	return []int{-1, -api.MaxWord, api.MaxWord + 1, api.MaxWord + 2, 1 << 40, math.MinInt, math.MaxInt}
}

// wrongPrefixes are not right by their bits, by their address, or by what stands behind the first bits.
func wrongPrefixes() []api.Prefix {
	out := []api.Prefix{{Addr: 1, Bits: 8}, {Addr: 1, Bits: 0}, {Addr: 1 << 31, Bits: 0}, {Addr: 1, Bits: 31}, {Addr: api.MaxWord, Bits: 31}}
	for _, bits := range []int{-1, -32, 33, 64, 256, 288, math.MinInt, math.MaxInt} {
		out = append(out, api.Prefix{Bits: bits}, api.Prefix{Addr: 1 << 31, Bits: bits}, api.Prefix{Addr: -1, Bits: bits})
	}
	for _, n := range wrongWords() {
		out = append(out, api.Prefix{Addr: n, Bits: 0}, api.Prefix{Addr: n, Bits: 1}, api.Prefix{Addr: n, Bits: 32})
	}
	for bits := range 32 {
		out = append(out, api.Prefix{Addr: 1 << (31 - bits), Bits: bits})
	}
	return out
}

func prefixRight(p api.Prefix) bool {
	return 0 <= p.Bits && p.Bits <= 32 && 0 <= p.Addr && p.Addr <= api.MaxWord && p.Addr%sizeOf(p.Bits) == 0
}

func has(p api.Prefix, n int) bool {
	return p.Addr <= n && n < p.Addr+sizeOf(p.Bits)
}

// rowsRight: are these rows right, by the words of the chapter?
func rowsRight(l []api.Row) bool {
	addresses := 0
	for i, r := range l {
		p := r.Prefix
		if !prefixRight(p) || r.Label < 0 || r.Label > api.MaxLabel {
			return false
		}
		addresses += sizeOf(p.Bits)
		for _, s := range l[:i] {
			q := s.Prefix
			rise := q.Addr < p.Addr || q.Addr == p.Addr && q.Bits < p.Bits
			if !rise || has(q, p.Addr) || has(p, q.Addr) {
				return false
			}
			if r.Label == s.Label && p.Bits == q.Bits && p.Addr^q.Addr == sizeOf(p.Bits) {
				return false
			}
		}
	}
	// No two prefixes have an address in common: so if there are as many as there are addresses, all are in one.
	return addresses == 1<<32
}

// step is a Put, or, with labels, a Map.
type step struct {
	row    api.Row
	labels []int
}

// history is what was done to a trie: a list, by which a label is found without any tree.
type history struct {
	first int
	steps []step
}

func (h history) label(n int) int {
	label := h.first
	for _, s := range h.steps {
		switch {
		case s.labels != nil:
			label = s.labels[label]
		case has(s.row.Prefix, n):
			label = s.row.Label
		}
	}
	return label
}

// edges are the addresses at which some prefix of the history begins, or no longer goes on, and the ones beside them.
func (h history) edges() []int {
	out := []int{0, api.MaxWord}
	for _, s := range h.steps {
		lo := s.row.Prefix.Addr
		hi := lo + sizeOf(s.row.Prefix.Bits) - 1
		for _, n := range []int{lo - 1, lo, hi, hi + 1} {
			if 0 <= n && n <= api.MaxWord {
				out = append(out, n)
			}
		}
	}
	return out
}

// wantHistory looks at a trie by the words: its labels are those of the history, its rows are right and say the same.
func wantHistory(t *testing.T, x *trie.Trie, h history) {
	t.Helper()
	rows := x.Rows()
	if !rowsRight(rows) {
		t.Fatalf("Rows behind %v: %v: not right", h, rows)
	}
	at := h.edges()
	for _, r := range rows {
		at = append(at, r.Prefix.Addr, r.Prefix.Addr+sizeOf(r.Prefix.Bits)-1)
	}
	for _, n := range at {
		want := h.label(n)
		if got, e := x.Find(n); got != want || e != api.OK {
			t.Fatalf("Find(%d) behind %v: %d, error %d; want %d", n, h, got, e, want)
		}
		i := slices.IndexFunc(rows, func(r api.Row) bool { return has(r.Prefix, n) })
		if rows[i].Label != want {
			t.Fatalf("Rows behind %v: %v: wrong of %d; want %d", h, rows, n, want)
		}
	}
}

// randomPrefix lies about one of a few addresses, so that prefixes often are within one another, or side by side.
func randomPrefix(r *rand.Rand) api.Prefix {
	n := []int{0, api.MaxWord, 1 << 31, 1<<31 - 1, 167772161, int(r.Uint32())}[r.Intn(6)]
	n ^= r.Intn(4) << r.Intn(31)
	bits := r.Intn(33)
	if r.Intn(2) == 0 {
		bits = []int{0, 1, 2, 31, 32}[r.Intn(5)]
	}
	return api.Prefix{Addr: n / sizeOf(bits) * sizeOf(bits), Bits: bits}
}

// randomTrie has a few labels, 0 to 3, so that halves often get the same one; and its history.
func randomTrie(t *testing.T, r *rand.Rand) (*trie.Trie, history) {
	t.Helper()
	h := history{first: r.Intn(4)}
	x := newTrie(t, h.first)
	for range r.Intn(12) {
		s := step{row: api.Row{Prefix: randomPrefix(r), Label: r.Intn(4)}}
		if r.Intn(6) == 0 {
			s = step{labels: []int{r.Intn(4), r.Intn(4), r.Intn(4), r.Intn(4)}}
			if e := x.Map(s.labels); e != api.OK {
				t.Fatalf("Map(%v): error %d", s.labels, e)
			}
		} else {
			put(t, x, s.row)
		}
		h.steps = append(h.steps, s)
	}
	return x, h
}

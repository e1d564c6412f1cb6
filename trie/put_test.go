package trie_test

import (
	"math/rand"
	"slices"
	"testing"

	"lychgate/api"
	"lychgate/trie"
)

func TestExampleOfPut(t *testing.T) {
	x := newTrie(t, 0)
	wantRows(t, x, rowOf(t, "0.0.0.0/0", 0))
	put(t, x, rowOf(t, "128.0.0.0/1", 5))
	wantRows(t, x, rowOf(t, "0.0.0.0/1", 0), rowOf(t, "128.0.0.0/1", 5))
	put(t, x, rowOf(t, "0.0.0.0/0", 5))
	wantRows(t, x, rowOf(t, "0.0.0.0/0", 5))
	put(t, x, rowOf(t, "10.0.0.1/32", 7))
	wantLabel(t, x, 167772161, 7)
	wantLabel(t, x, 167772160, 5)
	if got := len(x.Rows()); got != 33 {
		t.Errorf("%d rows; want 33", got)
	}
}

func TestNew(t *testing.T) {
	for _, label := range []int{0, 1, 255, 256, 65534, 65535} {
		x := newTrie(t, label)
		wantRows(t, x, row(0, 0, label))
		for _, n := range []int{0, 1, 1<<31 - 1, 1 << 31, api.MaxWord} {
			wantLabel(t, x, n, label)
		}
	}
	for _, label := range wrongLabels() {
		if x, e := trie.New(label); x != nil || e != api.ErrArg {
			t.Errorf("New(%d): %v, error %d; want ErrArg and nothing", label, x, e)
		}
	}
}

func TestFindRefusesWhatIsNoAddress(t *testing.T) {
	x := newTrie(t, 3)
	put(t, x, row(1<<31, 1, 9))
	for _, n := range wrongWords() {
		if label, e := x.Find(n); label != 0 || e != api.ErrArg {
			t.Errorf("Find(%d): %d, error %d; want ErrArg and 0", n, label, e)
		}
	}
}

func TestPutRefuses(t *testing.T) {
	x := newTrie(t, 3)
	put(t, x, row(1<<31, 1, 9))
	before := x.Rows()
	refused := func(p api.Prefix, label int) {
		t.Helper()
		if e := x.Put(p, label); e != api.ErrArg || !slices.Equal(x.Rows(), before) {
			t.Errorf("Put of %v, %d: error %d, rows %v; want ErrArg and nothing changed", p, label, e, x.Rows())
		}
	}
	for _, p := range wrongPrefixes() {
		refused(p, 1)
		refused(p, -1)
	}
	for _, label := range wrongLabels() {
		refused(api.Prefix{}, label)
		refused(api.Prefix{Addr: api.MaxWord, Bits: 32}, label)
	}
}

func TestPutOfEachSize(t *testing.T) {
	for bits := range 33 {
		for _, n := range []int{0, api.MaxWord, 167772161, 0xaaaaaaaa, 0x55555555} {
			h := history{first: 65535}
			x := newTrie(t, h.first)
			r := row(n/sizeOf(bits)*sizeOf(bits), bits, 7)
			put(t, x, r)
			h.steps = append(h.steps, step{row: r})
			wantHistory(t, x, h)
			if got := len(x.Rows()); got != bits+1 {
				t.Errorf("%d rows with %v; want %d", got, r, bits+1)
			}
			put(t, x, row(r.Prefix.Addr, bits, 65535))
			wantRows(t, x, row(0, 0, 65535))
		}
	}
}

func TestTheLastPutCounts(t *testing.T) {
	x := newTrie(t, 0)
	put(t, x, row(0, 8, 1))
	put(t, x, row(0, 16, 2))
	wantLabel(t, x, 0, 2)
	wantLabel(t, x, sizeOf(16), 1)
	put(t, x, row(0, 8, 3)) // what is within it is gone
	wantLabel(t, x, 0, 3)
	wantLabel(t, x, sizeOf(16), 3)
	wantLabel(t, x, sizeOf(8), 0)
	put(t, x, row(0, 32, 0)) // the label that was there first, within another one
	wantLabel(t, x, 0, 0)
	wantLabel(t, x, 1, 3)
	put(t, x, row(0, 0, 4))
	wantRows(t, x, row(0, 0, 4))
}

func TestPutsWithinOneAnother(t *testing.T) {
	const n = 0xc0a80101
	h := history{first: 100}
	x := newTrie(t, h.first)
	for bits := range 33 {
		r := row(n/sizeOf(bits)*sizeOf(bits), bits, bits)
		put(t, x, r)
		h.steps = append(h.steps, step{row: r})
		wantHistory(t, x, h)
	}
	for bits := range 32 {
		wantLabel(t, x, n^sizeOf(bits+1), bits)
	}
	wantLabel(t, x, n, 32)
}

// All labellings of eight parts: at the top of the tree, and among the last bits at both ends.
func TestAllLabellingsOfEightParts(t *testing.T) {
	for _, at := range []api.Prefix{{}, {Bits: 29}, {Addr: 1<<32 - 8, Bits: 29}, {Addr: 1<<31 - 1<<16, Bits: 16}} {
		for code := range 6561 {
			h := history{}
			x := newTrie(t, h.first)
			rest := code
			for i := range 8 {
				place := i * 3 % 8
				r := row(at.Addr+place*sizeOf(at.Bits+3), at.Bits+3, rest%3)
				rest /= 3
				put(t, x, r)
				h.steps = append(h.steps, step{row: r})
			}
			wantHistory(t, x, h)
			rows := x.Rows()
			wantRows(t, makeTrie(t, rows), rows...)
		}
	}
}

func TestRandomTries(t *testing.T) {
	r := rand.New(rand.NewSource(40))
	for range 4000 {
		x, h := randomTrie(t, r)
		wantHistory(t, x, h)
		rows := x.Rows()
		again := makeTrie(t, rows)
		wantHistory(t, again, h)
		wantRows(t, again, rows...)
		wantRows(t, x, rows...)
	}
}

// What says the same has the same rows, however it was come to: here by the rows, put in any order over anything.
func TestTriesThatSayTheSameHaveTheSameRows(t *testing.T) {
	r := rand.New(rand.NewSource(41))
	for range 1000 {
		x, _ := randomTrie(t, r)
		other, _ := randomTrie(t, r)
		rows := x.Rows()
		for _, i := range r.Perm(len(rows)) {
			put(t, other, rows[i])
		}
		wantRows(t, other, rows...)
		again := makeTrie(t, rows)
		for range 5 { // a label that is there already
			p := rows[r.Intn(len(rows))]
			put(t, again, p)
		}
		wantRows(t, again, rows...)
	}
}

func TestManyLabels(t *testing.T) {
	x := newTrie(t, 0)
	var want []api.Row
	for i := range 1 << 16 {
		want = append(want, row(i<<16, 16, i))
		put(t, x, want[i])
	}
	wantRows(t, x, want...)
	wantRows(t, makeTrie(t, want), want...)
	for i := range 1 << 16 {
		put(t, x, row(i<<16, 16, 8))
	}
	wantRows(t, x, row(0, 0, 8))
}

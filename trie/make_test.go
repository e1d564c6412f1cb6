package trie_test

import (
	"math/rand"
	"slices"
	"testing"

	"lychgate/api"
	"lychgate/trie"
)

// wantMake looks whether Make takes just the lists that are right by the words, and keeps what they say.
func wantMake(t *testing.T, l []api.Row) {
	t.Helper()
	x, e := trie.Make(l)
	if !rowsRight(l) {
		if x != nil || e != api.ErrTrieRows {
			t.Fatalf("Make of %v: %v, error %d; want ErrTrieRows and nothing", l, x, e)
		}
		return
	}
	if x == nil || e != api.OK {
		t.Fatalf("Make of %v: error %d", l, e)
	}
	wantRows(t, x, l...)
	for _, r := range l {
		wantLabel(t, x, r.Prefix.Addr, r.Label)
		wantLabel(t, x, r.Prefix.Addr+sizeOf(r.Prefix.Bits)-1, r.Label)
	}
}

func wantRefused(t *testing.T, l ...api.Row) {
	t.Helper()
	if x, e := trie.Make(l); x != nil || e != api.ErrTrieRows {
		t.Errorf("Make of %v: %v, error %d; want ErrTrieRows and nothing", l, x, e)
	}
}

func TestExamplesOfMake(t *testing.T) {
	low, high, all := "0.0.0.0/1", "128.0.0.0/1", "0.0.0.0/0"
	wantRefused(t, rowOf(t, low, 0))
	wantRefused(t, rowOf(t, high, 0), rowOf(t, low, 1))
	wantRefused(t, rowOf(t, low, 0), rowOf(t, high, 0))
	wantRefused(t, rowOf(t, all, 0), rowOf(t, low, 1))
}

func TestMakeAtTheEdges(t *testing.T) {
	wantRefused(t)
	wantMake(t, []api.Row{})
	for _, label := range []int{0, 65535} {
		wantRows(t, makeTrie(t, []api.Row{row(0, 0, label)}), row(0, 0, label))
	}
	for _, label := range wrongLabels() {
		wantRefused(t, row(0, 0, label))
		wantRefused(t, row(0, 1, label), row(1<<31, 1, 0))
		wantRefused(t, row(0, 1, 0), row(1<<31, 1, label))
		wantRefused(t, row(0, 1, label), row(1<<31, 1, label))
	}
	for _, p := range wrongPrefixes() {
		r := api.Row{Prefix: p, Label: 1}
		wantRefused(t, r)
		wantRefused(t, row(0, 0, 0), r)
		wantRefused(t, r, row(0, 0, 0))
		wantRefused(t, row(0, 1, 0), r)
		wantRefused(t, r, row(1<<31, 1, 0))
	}
	wantRefused(t, row(0, 0, 0), row(0, 0, 0))
	wantRefused(t, row(0, 0, 0), row(1<<32, 32, 1))
	wantRefused(t, row(1<<31, 1, 0))
}

// Prefixes side by side that are not the halves of one may have the same label.
func TestSameLabelsThatAreNoHalves(t *testing.T) {
	for _, l := range [][]api.Row{
		{row(0, 2, 1), row(1<<30, 2, 0), row(2<<30, 2, 0), row(3<<30, 2, 1)},
		{row(0, 1, 7), row(1<<31, 2, 1), row(3<<30, 2, 7)},
		{row(0, 2, 7), row(1<<30, 2, 1), row(1<<31, 1, 1)},
	} {
		wantRows(t, makeTrie(t, l), l...)
	}
}

func TestAllShortListsOfGreatPrefixes(t *testing.T) {
	var pool []api.Row
	for bits := range 3 {
		for i := range 1 << bits {
			pool = append(pool, row(i*sizeOf(bits), bits, 0), row(i*sizeOf(bits), bits, 1))
		}
	}
	var lists func(l []api.Row, left int)
	lists = func(l []api.Row, left int) {
		wantMake(t, l)
		if left == 0 {
			return
		}
		for _, r := range pool {
			lists(append(l, r), left-1)
		}
	}
	lists(nil, 4)
}

// spoilt is a list like l in which one thing is otherwise: mostly it is right no more.
func spoilt(r *rand.Rand, l []api.Row) []api.Row {
	l = slices.Clone(l)
	i, j := r.Intn(len(l)), r.Intn(len(l))
	p := &l[i].Prefix
	switch r.Intn(11) {
	case 0:
		return slices.Delete(l, i, i+1)
	case 1:
		return slices.Insert(l, i, l[j])
	case 2:
		l[i], l[j] = l[j], l[i]
	case 3:
		l[i].Label = l[j].Label
	case 4:
		l[i].Label = wrongLabels()[r.Intn(len(wrongLabels()))]
	case 5:
		p.Bits += 2*r.Intn(2) - 1
	case 6:
		p.Addr += 2*r.Intn(2) - 1
	case 7:
		p.Addr ^= 1 << r.Intn(40)
	case 8:
		*p = wrongPrefixes()[r.Intn(len(wrongPrefixes()))]
	case 9:
		if p.Bits < 32 {
			return slices.Replace(l, i, i+1, row(p.Addr, p.Bits+1, l[i].Label), row(p.Addr+sizeOf(p.Bits+1), p.Bits+1, r.Intn(4)))
		}
	case 10:
		return l[:i]
	}
	return l
}

func TestSpoiltRows(t *testing.T) {
	r := rand.New(rand.NewSource(42))
	for range 1500 {
		x, _ := randomTrie(t, r)
		rows := x.Rows()
		wantMake(t, rows)
		for range 6 {
			wantMake(t, spoilt(r, rows))
		}
	}
}

// A list of great length is looked at in steady time, also where its fault comes last.
func TestMakeOfManyRows(t *testing.T) {
	var l []api.Row
	for i := range 1 << 17 {
		l = append(l, row(i<<15, 17, i&1))
	}
	wantRows(t, makeTrie(t, l), l...)
	wantRefused(t, l[:len(l)-1]...)
	wantRefused(t, append(l, l[len(l)-1])...)
	l[len(l)-1].Label = 0
	wantRefused(t, l...)
}

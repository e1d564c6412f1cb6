package trie

import "lychgate/api"

// node says what labels a prefix's addresses have: all of them its own, or what its two halves say.
// It is not changed once it is made, so several nodes may lead to it, and what fails has changed nothing.
type node[L comparable] struct {
	label     L
	low, high *node[L] // both or none
}

func whole[L comparable](label L) *node[L] {
	return &node[L]{label: label}
}

// joined is the only way to a node with halves: so no two halves ever say one and the same label.
func joined[L comparable](low, high *node[L]) *node[L] {
	if low.isWhole() && high.isWhole() && low.label == high.label {
		return low
	}
	return &node[L]{low: low, high: high}
}

func (n *node[L]) isWhole() bool { return n.low == nil }

func (n *node[L]) halves() (low, high *node[L]) {
	if n.isWhole() {
		return n, n
	}
	return n.low, n.high
}

// put is the node with a label for all addresses that begin with the first bits of a word.
// The bit that comes next is always the highest one: those that were gone by are shifted out.
func (n *node[L]) put(word uint32, bits int, label L) *node[L] {
	if bits == 0 {
		return whole(label)
	}
	low, high := n.halves()
	if isHigh(word) {
		high = high.put(word<<1, bits-1, label)
	} else {
		low = low.put(word<<1, bits-1, label)
	}
	return joined(low, high)
}

func (n *node[L]) find(word uint32) L {
	for !n.isWhole() {
		if isHigh(word) {
			n = n.high
		} else {
			n = n.low
		}
		word <<= 1
	}
	return n.label
}

func isHigh(word uint32) bool { return word>>31 == 1 }

// mapped is the node with other labels; false, if one of them has no other.
func (n *node[L]) mapped(other func(L) (L, bool)) (*node[L], bool) {
	if n.isWhole() {
		label, ok := other(n.label)
		return whole(label), ok
	}
	low, ok := n.low.mapped(other)
	if !ok {
		return nil, false
	}
	high, ok := n.high.mapped(other)
	if !ok {
		return nil, false
	}
	return joined(low, high), true
}

// walk shows the prefixes that have one label throughout, rising; at is the node's own prefix.
func (n *node[L]) walk(at api.Prefix, see func(api.Prefix, L)) {
	if n.isWhole() {
		see(at, n.label)
		return
	}
	low, high := halvesOf(at)
	n.low.walk(low, see)
	n.high.walk(high, see)
}

// halvesOf needs a prefix of less than all bits.
func halvesOf(p api.Prefix) (low, high api.Prefix) {
	bits := p.Bits + 1
	return api.Prefix{Addr: p.Addr, Bits: bits}, api.Prefix{Addr: p.Addr + 1<<(allBits-bits), Bits: bits}
}

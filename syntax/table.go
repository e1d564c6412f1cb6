package syntax

import "lychgate/api"

// fault is what a panic carries up to the face: what is wrong, and at which byte.
type fault struct {
	e  api.Errno
	at int
}

// operator: a word between conditions, or ahead of one. Parts is the place in the table from which on an operator may stand in a part without brackets.
type operator struct {
	word  string
	kind  int
	parts int
}

// operators has those first that hold less: the place of one is how much it holds.
func operators() [3]operator {
	return [3]operator{
		{"or", api.CondOr, 1},
		{"and", api.CondAnd, 2},
		{"not", api.CondNot, 2},
	}
}

// holds is how much a condition's kind holds: its place among the operators, or more than that of any.
func holds(kind int) int {
	table := operators()
	for place, op := range table {
		if op.kind == kind {
			return place
		}
	}
	return len(table)
}

// itemWord is the word with which an item of a kind begins; empty, if there is no such kind.
func itemWord(kind int) string {
	switch kind {
	case api.ItemLet:
		return "let"
	case api.ItemAllow:
		return "allow"
	case api.ItemDeny:
		return "deny"
	}
	return ""
}

// testWord is that of a condition that is neither a name nor an operator.
func testWord(kind int) string {
	switch kind {
	case api.CondTrue:
		return "true"
	case api.CondFalse:
		return "false"
	case api.CondAddr:
		return "addr"
	case api.CondPort:
		return "port"
	case api.CondMethod:
		return "method"
	case api.CondPath:
		return "path"
	case api.CondHeader:
		return "header"
	case api.CondHas:
		return "has"
	}
	return ""
}

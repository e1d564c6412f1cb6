package glob

import (
	"strings"

	"lychgate/api"
	"lychgate/span"
)

// The bytes that a pattern may name are those from first to last.
const (
	first = 32
	last  = 126
)

// right: is it a pattern in its one form?
func right(l []api.Piece) bool {
	if len(l) > api.MaxPieces {
		return false
	}
	for i, p := range l {
		if !rightPiece(p) {
			return false
		}
		// The text of such a pair would be read as other pieces.
		if i > 0 && l[i-1].Kind == api.PieceStar && many(p) {
			return false
		}
	}
	return true
}

func rightPiece(p api.Piece) bool {
	switch p.Kind {
	case api.PieceByte:
		return first <= p.B && p.B <= last && !p.Not && len(p.Set) == 0
	case api.PieceAny, api.PieceStar, api.PieceDeep:
		return p.B == 0 && !p.Not && len(p.Set) == 0
	case api.PieceSet:
		return p.B == 0 && rightSet(p.Set)
	}
	return false
}

func rightSet(set []api.Span) bool {
	return span.Right(set) && len(set) > 0 && set[0].Lo >= first && set[len(set)-1].Hi <= last
}

// many: does a piece take any number of bytes?
func many(p api.Piece) bool {
	return p.Kind == api.PieceStar || p.Kind == api.PieceDeep
}

// takers has at each kind: does a piece of it take a byte (one that takes many, as one of them)?
func takers() []func(p api.Piece, b int) bool {
	return []func(p api.Piece, b int) bool{
		api.PieceByte: func(p api.Piece, b int) bool { return b == p.B },
		api.PieceAny:  func(_ api.Piece, b int) bool { return b != '/' },
		api.PieceSet:  func(p api.Piece, b int) bool { return b != '/' && span.Has(p.Set, b) != p.Not },
		api.PieceStar: func(_ api.Piece, b int) bool { return b != '/' },
		api.PieceDeep: func(api.Piece, int) bool { return true },
	}
}

// printers has at each kind the text of a piece of it.
func printers() []func(p api.Piece) string {
	return []func(p api.Piece) string{
		api.PieceByte: func(p api.Piece) string { return escaped(p.B, `*?[\`) },
		api.PieceAny:  func(api.Piece) string { return "?" },
		api.PieceSet:  setText,
		api.PieceStar: func(api.Piece) string { return "*" },
		api.PieceDeep: func(api.Piece) string { return "**" },
	}
}

func setText(p api.Piece) string {
	var out strings.Builder
	out.WriteString("[")
	if p.Not {
		out.WriteString("!")
	}
	for _, s := range p.Set {
		out.WriteString(escaped(s.Lo, `]\-!`))
		if s.Hi != s.Lo {
			out.WriteString("-" + escaped(s.Hi, `]\-!`))
		}
	}
	out.WriteString("]")
	return out.String()
}

// escaped is a byte as text, behind a backslash if it is one of the signs, which would mean something else.
func escaped(b int, signs string) string {
	if strings.IndexByte(signs, byte(b)) >= 0 {
		return `\` + string(rune(b))
	}
	return string(rune(b))
}

package glob_test

import (
	"math/rand"
	"regexp"
	"slices"
	"strings"
	"testing"

	"lychgate/api"
	"lychgate/glob"
)

var (
	anyPiece  = api.Piece{Kind: api.PieceAny}
	star      = api.Piece{Kind: api.PieceStar}
	deep      = api.Piece{Kind: api.PieceDeep}
	smallSets = [][]api.Span{
		{{Lo: 'a', Hi: 'a'}},
		{{Lo: 'a', Hi: 'b'}, {Lo: 'x', Hi: 'x'}},
		{{Lo: 32, Hi: 126}},
		{{Lo: '!', Hi: '!'}, {Lo: '-', Hi: '-'}, {Lo: '\\', Hi: ']'}},
		{{Lo: '-', Hi: '/'}},
	}
)

func one(b int) api.Piece { return api.Piece{Kind: api.PieceByte, B: b} }

func set(not bool, spans ...api.Span) api.Piece {
	return api.Piece{Kind: api.PieceSet, Not: not, Set: spans}
}

func samePieces(a, b []api.Piece) bool {
	return slices.EqualFunc(a, b, func(p, q api.Piece) bool {
		return p.Kind == q.Kind && p.B == q.B && p.Not == q.Not && slices.Equal(p.Set, q.Set)
	})
}

func clonePieces(l []api.Piece) []api.Piece {
	out := slices.Clone(l)
	for i := range out {
		out[i].Set = slices.Clone(out[i].Set)
	}
	return out
}

func parse(t *testing.T, s string) []api.Piece {
	t.Helper()
	l, e, at := glob.Parse(s)
	if e != api.OK || at != 0 {
		t.Fatalf("Parse(%q): error %d at %d", s, e, at)
	}
	return l
}

func print(t *testing.T, l []api.Piece) string {
	t.Helper()
	s, e := glob.Print(l)
	if e != api.OK {
		t.Fatalf("Print(%v): error %d", l, e)
	}
	return s
}

func match(t *testing.T, l []api.Piece, s string) bool {
	t.Helper()
	is, e := glob.Match(l, s)
	if e != api.OK {
		t.Fatalf("Match(%v, %q): error %d", l, s, e)
	}
	return is
}

func wantRefused(t *testing.T, s string, place int) {
	t.Helper()
	if l, e, at := glob.Parse(s); len(l) != 0 || e != api.ErrGlobForm || at != place {
		t.Errorf("Parse(%q): %v, error %d at %d, want %d", s, l, e, at, place)
	}
}

// The forms of a pattern's text, as the chapter gives them: of a byte of a set (a first one is no exclamation mark), of an item, of a piece.
const (
	member      = `(?:\\[ -~]|[ -,.-\[^-~])`
	firstMember = `(?:\\[ -~]|[ "-,.-\[^-~])`
	item        = member + `(?:-` + member + `)?`
	firstItem   = firstMember + `(?:-` + member + `)?`
	setForm     = `\[(?:!` + item + `|` + firstItem + `)(?:` + item + `)*\]`
	pieceForm   = `\*\*|\*|\?|` + setForm + `|\\[ -~]|[ -)+->@-Z\]-~]`
)

var (
	pieceText = regexp.MustCompile(`^(?:` + pieceForm + `)`)
	itemText  = regexp.MustCompile(`^` + item)
)

// readByForms are a text's pieces by the forms; false, if it is no pattern's text of at most 64 pieces.
func readByForms(s string) ([]api.Piece, bool) {
	var out []api.Piece
	for s != "" {
		text := pieceText.FindString(s)
		p, ok := pieceOf(text)
		if text == "" || !ok || len(out) == 64 {
			return nil, false
		}
		out = append(out, p)
		s = s[len(text):]
	}
	return out, true
}

func pieceOf(text string) (api.Piece, bool) {
	switch {
	case text == "*":
		return star, true
	case text == "**":
		return deep, true
	case text == "?":
		return anyPiece, true
	case len(text) > 1 && text[0] == '[':
		return setOf(text[1 : len(text)-1])
	case text != "":
		return one(int(text[len(text)-1])), true
	}
	return api.Piece{}, false
}

func setOf(inner string) (api.Piece, bool) {
	rest, not := strings.CutPrefix(inner, "!")
	var in [256]bool
	for rest != "" {
		text := itemText.FindString(rest)
		rest = rest[len(text):]
		lo, tail := memberOf(text)
		hi := lo
		if tail != "" {
			hi, _ = memberOf(tail[1:])
		}
		if hi < lo {
			return api.Piece{}, false
		}
		for b := lo; b <= hi; b++ {
			in[b] = true
		}
	}
	return set(not, spansOf(in)...), true
}

func memberOf(text string) (int, string) {
	if text[0] == '\\' {
		return int(text[1]), text[2:]
	}
	return int(text[0]), text[1:]
}

func spansOf(in [256]bool) []api.Span {
	var out []api.Span
	for b, is := range in {
		switch {
		case !is:
		case b > 0 && in[b-1]:
			out[len(out)-1].Hi = b
		default:
			out = append(out, api.Span{Lo: b, Hi: b})
		}
	}
	return out
}

// goesOn: is a text the beginning of some pattern's text? Whatever is begun is ended by one of these.
func goesOn(s string) bool {
	return slices.ContainsFunc([]string{"", "~", "]", "~]"}, func(end string) bool {
		_, ok := readByForms(s + end)
		return ok
	})
}

// matchByCuts: can the text be cut so that each piece takes its part?
func matchByCuts(l []api.Piece, s string) bool {
	if len(l) == 0 {
		return s == ""
	}
	for n := 0; n <= len(s); n++ {
		if takesPart(l[0], s[:n]) && matchByCuts(l[1:], s[n:]) {
			return true
		}
	}
	return false
}

func takesPart(p api.Piece, part string) bool {
	switch p.Kind {
	case api.PieceByte:
		return part == string([]byte{byte(p.B)})
	case api.PieceAny:
		return len(part) == 1 && part != "/"
	case api.PieceSet:
		return len(part) == 1 && part != "/" && inSpans(p.Set, int(part[0])) != p.Not
	case api.PieceStar:
		return !strings.Contains(part, "/")
	}
	return true
}

func inSpans(l []api.Span, n int) bool {
	return slices.ContainsFunc(l, func(s api.Span) bool { return s.Lo <= n && n <= s.Hi })
}

// canStand: may a piece stand behind these?
func canStand(l []api.Piece, p api.Piece) bool {
	many := p.Kind == api.PieceStar || p.Kind == api.PieceDeep
	return len(l) == 0 || l[len(l)-1].Kind != api.PieceStar || !many
}

// eachText gives all texts of at most n of these bytes.
func eachText(bytes string, n int, give func(s string)) {
	var from func(s string)
	from = func(s string) {
		give(s)
		for i := 0; i < len(bytes) && len(s) < n; i++ {
			from(s + bytes[i:i+1])
		}
	}
	from("")
}

// eachRow gives all rows of at most n of these pieces that may stand behind one another.
func eachRow(pieces []api.Piece, n int, give func(l []api.Piece)) {
	var from func(l []api.Piece)
	from = func(l []api.Piece) {
		give(l)
		for _, p := range pieces {
			if len(l) < n && canStand(l, p) {
				from(append(slices.Clone(l), p))
			}
		}
	}
	from(nil)
}

func randomPieces(r *rand.Rand, n int) []api.Piece {
	var out []api.Piece
	for len(out) < n {
		if p := randomPiece(r); canStand(out, p) {
			out = append(out, p)
		}
	}
	return out
}

func randomPiece(r *rand.Rand) api.Piece {
	switch r.Intn(5) {
	case 0:
		return anyPiece
	case 1:
		return star
	case 2:
		return deep
	case 3:
		return one(32 + r.Intn(95))
	}
	var in [256]bool
	for in[32+r.Intn(95)] = true; r.Intn(4) > 0; {
		lo := 32 + r.Intn(95)
		for b := lo; b <= min(126, lo+r.Intn(8)); b++ {
			in[b] = true
		}
	}
	return set(r.Intn(2) == 0, spansOf(in)...)
}

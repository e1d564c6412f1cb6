package syntax

import (
	"strconv"
	"strings"

	"lychgate/addr"
	"lychgate/api"
	"lychgate/lex"
)

// writer puts tokens one behind the other; a policy that no source says is a panic with a fault.
type writer struct {
	source strings.Builder
	parted bool // the last token was none that a blank must part from a word
}

// written is the shortest source of a policy.
func written(p api.Policy) string {
	mustHold(len(p.Items) <= api.MaxItems)
	w := writer{parted: true}
	for _, x := range p.Items {
		w.item(x)
	}
	return w.source.String()
}

func mustHold(is bool) {
	if !is {
		panic(fault{e: api.ErrSyntaxTree})
	}
}

// word writes a word, a name or a method.
func (w *writer) word(text string) {
	if !w.parted {
		w.source.WriteByte(' ')
	}
	w.other(text)
	w.parted = false
}

// other writes any other token. It gives up as soon as there are too many bytes, since a policy may have far more than a source.
func (w *writer) other(text string) {
	w.source.WriteString(text)
	w.parted = true
	mustHold(w.source.Len() <= api.MaxSource)
}

func (w *writer) name(text string) {
	mustHold(lex.IsName(text))
	w.word(text)
}

func (w *writer) text(text string) {
	quoted, e := lex.Quote(text)
	mustHold(e == api.OK)
	w.other(quoted)
}

func (w *writer) item(x api.Item) {
	word := itemWord(x.Kind)
	mustHold(word != "")
	w.word(word)
	w.name(x.Name)
	if x.Kind == api.ItemLet {
		w.other("=")
	} else {
		w.word("when")
	}
	w.cond(x.Cond, 0, 1)
	w.other(";")
}

// cond writes a condition where operators from a place of their table on may stand without brackets; deep is how deep it lies.
func (w *writer) cond(c api.Cond, place, deep int) {
	mustHold(deep <= api.MaxDeep && !hasMore(c))
	own := holds(c.Kind)
	if own < place {
		w.other("(")
	}
	switch c.Kind {
	case api.CondNot:
		w.not(c, operators()[own], deep)
	case api.CondAnd, api.CondOr:
		w.row(c, operators()[own], deep)
	case api.CondName:
		w.name(c.Name)
	default:
		w.test(c)
	}
	if own < place {
		w.other(")")
	}
}

func (w *writer) not(c api.Cond, op operator, deep int) {
	mustHold(len(c.Kids) == 1)
	w.word(op.word)
	w.cond(c.Kids[0], op.parts, deep+1)
}

func (w *writer) row(c api.Cond, op operator, deep int) {
	mustHold(len(c.Kids) >= 2 && len(c.Kids) <= api.MaxParts)
	for i, kid := range c.Kids {
		if i > 0 {
			w.word(op.word)
		}
		w.cond(kid, op.parts, deep+1)
	}
}

// hasMore: has a condition what its kind has not?
func hasMore(c api.Cond) bool {
	switch c.Kind {
	case api.CondName, api.CondHas:
		c.Name = ""
	case api.CondNot, api.CondAnd, api.CondOr:
		c.Kids = nil
	case api.CondAddr:
		c.Prefixes = nil
	case api.CondPort:
		c.Spans = nil
	case api.CondMethod:
		c.Names = nil
	case api.CondPath:
		c.Text = ""
	case api.CondHeader:
		c.Name, c.Text = "", ""
	}
	return c.Name != "" || c.Text != "" || len(c.Prefixes) > 0 || len(c.Spans) > 0 || len(c.Names) > 0 || len(c.Kids) > 0
}

func (w *writer) test(c api.Cond) {
	word := testWord(c.Kind)
	mustHold(word != "")
	w.word(word)
	switch c.Kind {
	case api.CondAddr:
		w.list(len(c.Prefixes), func(i int) { w.prefix(c.Prefixes[i]) })
	case api.CondPort:
		w.list(len(c.Spans), func(i int) { w.ports(c.Spans[i]) })
	case api.CondMethod:
		w.list(len(c.Names), func(i int) { w.method(c.Names[i]) })
	case api.CondPath:
		w.other("~")
		w.text(c.Text)
	case api.CondHeader:
		w.text(c.Name)
		w.other("~")
		w.text(c.Text)
	case api.CondHas:
		w.text(c.Name)
	}
}

// list writes a list of so many parts, each by its place.
func (w *writer) list(parts int, part func(i int)) {
	mustHold(parts >= 1 && parts <= api.MaxParts)
	w.word("in")
	w.other("{")
	for i := range parts {
		if i > 0 {
			w.other(",")
		}
		part(i)
	}
	w.other("}")
}

func (w *writer) prefix(p api.Prefix) {
	text, e := addr.PrintPrefix(p)
	mustHold(e == api.OK)
	w.other(strings.TrimSuffix(text, "/32"))
}

func (w *writer) ports(s api.Span) {
	w.number(s.Lo)
	if s.Hi != s.Lo {
		w.other("-")
		w.number(s.Hi)
	}
}

func (w *writer) number(n int) {
	mustHold(n >= 0 && n <= api.MaxWord)
	w.other(strconv.Itoa(n))
}

func (w *writer) method(text string) {
	mustHold(text != "" && len(text) <= api.MaxMethod && strings.Trim(text, "ABCDEFGHIJKLMNOPQRSTUVWXYZ") == "")
	w.word(text)
}

package syntax

import "lychgate/api"

// reader goes through a source's tokens, of which the last one is the end; what is wrong is a panic with a fault.
type reader struct {
	tokens []api.Token
	next   int
}

func (r *reader) token() api.Token { return r.tokens[r.next] }

// refuse gives up at the next token.
func (r *reader) refuse(e api.Errno) { panic(fault{e, r.token().At}) }

func (r *reader) isWord(text string) bool { return r.isText(api.TokenWord, text) }

func (r *reader) isSign(text string) bool { return r.isText(api.TokenSign, text) }

func (r *reader) isText(kind int, text string) bool {
	t := r.token()
	return t.Kind == kind && t.Text == text
}

// take goes over the next token, which must be of a kind.
func (r *reader) take(kind int) api.Token {
	t := r.token()
	if t.Kind != kind {
		r.refuse(api.ErrSyntaxToken)
	}
	r.next++
	return t
}

func (r *reader) takeWord(text string) { r.takeText(api.TokenWord, text) }

func (r *reader) takeSign(text string) { r.takeText(api.TokenSign, text) }

func (r *reader) takeText(kind int, text string) {
	if !r.isText(kind, text) {
		r.refuse(api.ErrSyntaxToken)
	}
	r.next++
}

func (r *reader) policy() api.Policy {
	var p api.Policy
	for r.token().Kind != api.TokenEnd {
		kind := r.itemKind()
		if len(p.Items) == api.MaxItems {
			r.refuse(api.ErrSyntaxMany)
		}
		p.Items = append(p.Items, r.item(kind))
	}
	return p
}

// itemKind is the kind of the item that begins at the next token.
func (r *reader) itemKind() int {
	for kind := api.ItemLet; kind <= api.ItemDeny; kind++ {
		if r.isWord(itemWord(kind)) {
			return kind
		}
	}
	r.refuse(api.ErrSyntaxToken)
	return 0
}

func (r *reader) item(kind int) api.Item {
	x := api.Item{Kind: kind, At: r.take(api.TokenWord).At}
	x.Name = r.take(api.TokenName).Text
	if kind == api.ItemLet {
		r.takeSign("=")
	} else {
		r.takeWord("when")
	}
	x.Cond = r.condition(0)
	r.takeSign(";")
	return x
}

// condition reads one whose operators, outside of brackets, stand at this place of their table or behind it.
func (r *reader) condition(place int) api.Cond {
	table := operators()
	if place == len(table) {
		return r.first()
	}
	if table[place].kind == api.CondNot {
		return r.not(table[place])
	}
	return r.row(table[place])
}

func (r *reader) row(op operator) api.Cond {
	first := r.condition(op.parts)
	if !r.isWord(op.word) {
		return first
	}
	c := api.Cond{Kind: op.kind, Kids: []api.Cond{first}, At: first.At}
	for r.isWord(op.word) {
		r.next++
		if len(c.Kids) == api.MaxParts && r.begins() {
			r.refuse(api.ErrSyntaxMany)
		}
		c.Kids = append(c.Kids, r.condition(op.parts))
	}
	return over(c)
}

func (r *reader) not(op operator) api.Cond {
	if !r.isWord(op.word) {
		return r.condition(holds(op.kind) + 1)
	}
	c := api.Cond{Kind: op.kind, At: r.take(api.TokenWord).At}
	c.Kids = []api.Cond{r.condition(op.parts)}
	return over(c)
}

// over gives up a condition that has come to its end and is too deep. Those within it came to theirs ahead of it, so the first that is told has no such one within.
func over(c api.Cond) api.Cond {
	if depth(c) > api.MaxDeep {
		panic(fault{api.ErrSyntaxDeep, c.At})
	}
	return c
}

// depth goes no deeper than just above what is allowed, since all Kids of a condition have been looked at ahead of it.
func depth(c api.Cond) int {
	deepest := 0
	for _, kid := range c.Kids {
		deepest = max(deepest, depth(kid))
	}
	return deepest + 1
}

package syntax

import "lychgate/api"

// begins: may a part of a row begin with the next token?
func (r *reader) begins() bool {
	return r.token().Kind == api.TokenName || r.isSign("(") || r.isWord("not") || r.testKind() != 0
}

// testKind is the kind of the test that begins with the next token; 0, if none does.
func (r *reader) testKind() int {
	for kind := api.CondTrue; kind <= api.CondHas; kind++ {
		if r.isWord(testWord(kind)) {
			return kind
		}
	}
	return 0
}

// first reads what is no operator: a condition in brackets, a name, or a test.
func (r *reader) first() api.Cond {
	if r.isSign("(") {
		r.next++
		c := r.condition(0)
		r.takeSign(")")
		return c
	}
	if t := r.token(); t.Kind == api.TokenName {
		r.next++
		return api.Cond{Kind: api.CondName, Name: t.Text, At: t.At}
	}
	kind := r.testKind()
	if kind == 0 {
		r.refuse(api.ErrSyntaxToken)
	}
	c := api.Cond{Kind: kind, At: r.take(api.TokenWord).At}
	r.rest(&c)
	return c
}

// rest reads what stands behind a test's word.
func (r *reader) rest(c *api.Cond) {
	switch c.Kind {
	case api.CondAddr:
		r.list(api.TokenPrefix, func(t api.Token) { c.Prefixes = append(c.Prefixes, t.Prefix) })
	case api.CondPort:
		r.list(api.TokenNumber, func(t api.Token) { c.Spans = append(c.Spans, r.ports(t.Number)) })
	case api.CondMethod:
		r.list(api.TokenMethod, func(t api.Token) { c.Names = append(c.Names, t.Text) })
	case api.CondPath:
		r.takeSign("~")
		c.Text = r.take(api.TokenText).Text
	case api.CondHeader:
		c.Name = r.take(api.TokenText).Text
		r.takeSign("~")
		c.Text = r.take(api.TokenText).Text
	case api.CondHas:
		c.Name = r.take(api.TokenText).Text
	}
}

// list reads a list; each part's first token, which is of a kind, is given to add.
func (r *reader) list(kind int, add func(t api.Token)) {
	r.takeWord("in")
	r.takeSign("{")
	add(r.take(kind))
	for parts := 1; r.isSign(","); parts++ {
		r.next++
		if parts == api.MaxParts && r.token().Kind == kind {
			r.refuse(api.ErrSyntaxMany)
		}
		add(r.take(kind))
	}
	r.takeSign("}")
}

// ports reads what may stand behind the first number of ports.
func (r *reader) ports(from int) api.Span {
	if !r.isSign("-") {
		return api.Span{Lo: from, Hi: from}
	}
	r.next++
	return api.Span{Lo: from, Hi: r.take(api.TokenNumber).Number}
}

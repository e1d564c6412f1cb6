package syntax_test

import (
	"slices"

	"lychgate/api"
	"lychgate/lex"
)

// What follows reads sources by the chapter's table of rules, as it stands there, by other means than the package does: all rules that the tokens so far let go on are gone on with at once (Earley's way).

// value is what a symbol stands for: a token, a condition, or items. Open: a row that its own rule made, so that another part may become a piece of it.
type value struct {
	token api.Token
	cond  api.Cond
	open  bool
	items []api.Item
}

// rule: a symbol of the table is some others.
type rule struct {
	left  string
	right []string
	make  func(v []value) value
}

// state: a rule of which the symbols ahead of dot have been met, from the token from on.
type state struct {
	rule *rule
	dot  int
	from int
	got  []value
}

func (s state) next() string {
	if s.dot == len(s.rule.right) {
		return ""
	}
	return s.rule.right[s.dot]
}

func (s state) over() bool { return s.dot == len(s.rule.right) }

func (s state) with(v value) state {
	got := append(slices.Clone(s.got), v)
	return state{s.rule, s.dot + 1, s.from, got}
}

func same(v []value) value { return v[0] }

func leaf(kind int) func(v []value) value {
	return func(v []value) value {
		c := api.Cond{Kind: kind, At: v[0].token.At}
		switch kind {
		case api.CondName:
			c.Name = v[0].token.Text
		case api.CondAddr, api.CondPort, api.CondMethod:
			c.Prefixes, c.Spans, c.Names = v[3].cond.Prefixes, v[3].cond.Spans, v[3].cond.Names
		case api.CondPath:
			c.Text = v[2].token.Text
		case api.CondHeader:
			c.Name, c.Text = v[1].token.Text, v[3].token.Text
		case api.CondHas:
			c.Name = v[1].token.Text
		}
		return value{cond: c}
	}
}

func list(v []value) value {
	last := v[len(v)-1]
	var c api.Cond
	if len(v) > 1 {
		c = v[0].cond
	}
	switch last.token.Kind {
	case api.TokenPrefix:
		c.Prefixes = append(slices.Clone(c.Prefixes), last.token.Prefix)
	case api.TokenMethod:
		c.Names = append(slices.Clone(c.Names), last.token.Text)
	default:
		c.Spans = append(slices.Clone(c.Spans), last.cond.Spans...)
	}
	return value{cond: c}
}

func ports(v []value) value {
	span := api.Span{Lo: v[0].token.Number, Hi: v[len(v)-1].token.Number}
	return value{cond: api.Cond{Spans: []api.Span{span}}}
}

func rowOf(kind int) func(v []value) value {
	return func(v []value) value {
		kids := []api.Cond{v[0].cond}
		if v[0].open {
			kids = slices.Clone(v[0].cond.Kids)
		}
		return value{cond: api.Cond{Kind: kind, Kids: append(kids, v[2].cond), At: v[0].cond.At}, open: true}
	}
}

func itemOf(kind int) func(v []value) value {
	return func(v []value) value {
		return value{items: []api.Item{{Kind: kind, Name: v[1].token.Text, Cond: v[3].cond, At: v[0].token.At}}}
	}
}

func closed(v []value) value { return value{cond: v[0].cond} }

func inside(v []value) value { return value{cond: v[1].cond} }

func notOf(v []value) value {
	return value{cond: api.Cond{Kind: api.CondNot, Kids: []api.Cond{v[1].cond}, At: v[0].token.At}}
}

func joined(v []value) value {
	return value{items: append(slices.Clone(v[0].items), v[1].items...)}
}

// table are the chapter's rules; a word or a sign stands for itself.
var table = []*rule{
	{"policy", []string{"END"}, same},
	{"policy", []string{"items", "END"}, same},
	{"items", []string{"item"}, same},
	{"items", []string{"items", "item"}, joined},
	{"item", []string{"let", "NAME", "=", "or-rule", ";"}, itemOf(api.ItemLet)},
	{"item", []string{"allow", "NAME", "when", "or-rule", ";"}, itemOf(api.ItemAllow)},
	{"item", []string{"deny", "NAME", "when", "or-rule", ";"}, itemOf(api.ItemDeny)},
	{"or-rule", []string{"and-rule"}, closed},
	{"or-rule", []string{"or-rule", "or", "and-rule"}, rowOf(api.CondOr)},
	{"and-rule", []string{"not-rule"}, closed},
	{"and-rule", []string{"and-rule", "and", "not-rule"}, rowOf(api.CondAnd)},
	{"not-rule", []string{"not", "not-rule"}, notOf},
	{"not-rule", []string{"first"}, same},
	{"first", []string{"(", "or-rule", ")"}, inside},
	{"first", []string{"true"}, leaf(api.CondTrue)},
	{"first", []string{"false"}, leaf(api.CondFalse)},
	{"first", []string{"NAME"}, leaf(api.CondName)},
	{"first", []string{"addr", "in", "{", "addr-list", "}"}, leaf(api.CondAddr)},
	{"first", []string{"port", "in", "{", "port-list", "}"}, leaf(api.CondPort)},
	{"first", []string{"method", "in", "{", "method-list", "}"}, leaf(api.CondMethod)},
	{"first", []string{"path", "~", "TEXT"}, leaf(api.CondPath)},
	{"first", []string{"header", "TEXT", "~", "TEXT"}, leaf(api.CondHeader)},
	{"first", []string{"has", "TEXT"}, leaf(api.CondHas)},
	{"addr-list", []string{"PREFIX"}, list},
	{"addr-list", []string{"addr-list", ",", "PREFIX"}, list},
	{"port-list", []string{"ports"}, list},
	{"port-list", []string{"port-list", ",", "ports"}, list},
	{"ports", []string{"NUMBER"}, ports},
	{"ports", []string{"NUMBER", "-", "NUMBER"}, ports},
	{"method-list", []string{"METHOD"}, list},
	{"method-list", []string{"method-list", ",", "METHOD"}, list},
}

// symbol is what a token is called in the table.
func symbol(t api.Token) string {
	switch t.Kind {
	case api.TokenName:
		return "NAME"
	case api.TokenMethod:
		return "METHOD"
	case api.TokenNumber:
		return "NUMBER"
	case api.TokenPrefix:
		return "PREFIX"
	case api.TokenText:
		return "TEXT"
	case api.TokenEnd:
		return "END"
	}
	return t.Text
}

// chart has, for each place between tokens, all states that are possible there.
type chart [][]state

func isIn(l []state, s state) bool {
	return slices.ContainsFunc(l, func(o state) bool { return o.rule == s.rule && o.dot == s.dot && o.from == s.from })
}

// filled puts into the last place what follows from the states that are there. No rule is empty, so each state is met once, with one value.
func (c chart) filled() chart {
	here := len(c) - 1
	l := c[here]
	for i := 0; i < len(l); i++ {
		s := l[i]
		if s.over() {
			for _, o := range c[s.from] {
				if o.next() == s.rule.left {
					l = append(l, o.with(s.rule.make(s.got)))
				}
			}
			continue
		}
		for _, r := range table {
			if start := (state{rule: r, from: here}); r.left == s.next() && !isIn(l, start) {
				l = append(l, start)
			}
		}
	}
	c[here] = l
	return c
}

func newChart() chart {
	return chart{{{rule: table[0]}, {rule: table[1]}}}.filled()
}

// after is the chart behind one more token; the states of the new place are none, if no source goes on with it.
func (c chart) after(t api.Token) chart {
	var l []state
	for _, s := range c[len(c)-1] {
		if s.next() == symbol(t) {
			l = append(l, s.with(value{token: t}))
		}
	}
	return append(slices.Clone(c), l).filled()
}

func depthOf(c api.Cond) int {
	deepest := 0
	for _, kid := range c.Kids {
		deepest = max(deepest, depthOf(kid))
	}
	return 1 + deepest
}

// tooDeep is the innermost condition that is over ahead of a token and has too great a depth.
func (c chart) tooDeep(t api.Token) (api.Cond, bool) {
	var found api.Cond
	for _, s := range c[len(c)-1] {
		if !s.over() {
			continue
		}
		goesOn := false
		switch s.rule.left {
		case "and-rule":
			goesOn = symbol(t) == "and"
		case "or-rule":
			goesOn = symbol(t) == "and" || symbol(t) == "or"
		case "not-rule":
		default:
			continue
		}
		cond := s.rule.make(s.got).cond
		if d := depthOf(cond); !goesOn && d > 16 && (found.Kind == 0 || d < depthOf(found)) {
			found = cond
		}
	}
	return found, found.Kind != 0
}

// many: does a token that is right there begin one more than there may be?
func (c chart) many(t api.Token) bool {
	for _, s := range c[len(c)-1] {
		switch s.next() {
		case "item":
			if len(s.got) > 0 && len(s.got[0].items) == 100 && symbol(t) != "END" {
				return true
			}
		case "not-rule", "and-rule", "PREFIX", "ports", "METHOD":
			if s.dot == 2 && countOf(s.got[0]) == 32 {
				return true
			}
		}
	}
	return false
}

func countOf(v value) int {
	c := v.cond
	if n := len(c.Prefixes) + len(c.Spans) + len(c.Names); n > 0 && c.Kind == 0 {
		return n
	}
	if v.open {
		return len(c.Kids)
	}
	return 1
}

// step goes on by one token; the fault that is told at it.
func (c chart) step(t api.Token) (chart, api.Errno, int) {
	if cond, is := c.tooDeep(t); is {
		return nil, api.ErrSyntaxDeep, cond.At
	}
	next := c.after(t)
	if len(next[len(next)-1]) == 0 {
		return nil, api.ErrSyntaxToken, t.At
	}
	if c.many(t) {
		return nil, api.ErrSyntaxMany, t.At
	}
	return next, api.OK, 0
}

// policy is what stands there behind the end.
func (c chart) policy() api.Policy {
	for _, s := range c[len(c)-1] {
		if s.over() && s.rule.left == "policy" {
			return api.Policy{Items: s.rule.make(s.got).items}
		}
	}
	panic("no policy")
}

// wordsParse is what Parse answers, by the words.
func wordsParse(s string) answer {
	tokens, e, at := lex.Scan(s)
	if e != api.OK {
		return answer{e: e, at: at}
	}
	c := newChart()
	for _, t := range tokens {
		if c, e, at = c.step(t); e != api.OK {
			return answer{e: e, at: at}
		}
	}
	return answer{policy: c.policy()}
}

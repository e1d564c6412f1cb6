package lex

import (
	"strconv"
	"strings"

	"lychgate/addr"
	"lychgate/api"
)

// state is what a scanner is in.
type state int

const (
	inNothing state = iota // nothing goes on
	inRemark
	inSmall  // a run of small letters
	inGreat  // a run of great letters
	inDigits // a run of digits
	inText
	inEscape // a text, behind a backslash
)

// scanner goes through a source.
type scanner struct {
	source string
	tokens []api.Token
	in     state
	from   int             // where what it is in begins
	meant  strings.Builder // of the text that it is in
}

// step takes the rune at a place.
func (c *scanner) step(at int, r rune) api.Errno {
	switch c.in {
	case inRemark:
		if r == '\n' {
			c.in = inNothing
		}
		return api.OK
	case inText:
		return c.stepText(r)
	case inEscape:
		return c.stepEscape(r)
	case inSmall, inGreat, inDigits:
		if goesOn(c.in, r) {
			return api.OK
		}
		if e := c.endRun(at); e != api.OK {
			return e
		}
	}
	return c.begin(at, r)
}

// end takes the source's end.
func (c *scanner) end() api.Errno {
	switch c.in {
	case inText, inEscape:
		return api.ErrLexText
	case inSmall, inGreat, inDigits:
		if e := c.endRun(len(c.source)); e != api.OK {
			return e
		}
	}
	c.from = len(c.source)
	c.add(api.Token{Kind: api.TokenEnd})
	return api.OK
}

// add takes a token that begins where the scanner says.
func (c *scanner) add(t api.Token) {
	t.At = c.from
	c.tokens = append(c.tokens, t)
}

// begin takes a rune with which something begins.
func (c *scanner) begin(at int, r rune) api.Errno {
	c.from = at
	c.in = inNothing
	switch {
	case isBlank(r):
	case r == '#':
		c.in = inRemark
	case isSmall(r):
		c.in = inSmall
	case isGreat(r):
		c.in = inGreat
	case isDigit(r):
		c.in = inDigits
	case r == '"':
		c.in = inText
	case isSign(r):
		c.add(api.Token{Kind: api.TokenSign, Text: string(r)})
	default:
		return api.ErrLexByte
	}
	return api.OK
}

// goesOn: does a run go on by a rune?
func goesOn(in state, r rune) bool {
	switch in {
	case inSmall:
		return isSmall(r) || isDigit(r) || r == '_' || r == '-'
	case inGreat:
		return isGreat(r)
	}
	return isDigit(r) || r == '.' || r == '/'
}

// endRun takes the run that ends at a place.
func (c *scanner) endRun(at int) api.Errno {
	// A piece of the source would keep all of it in memory.
	run := strings.Clone(c.source[c.from:at])
	switch c.in {
	case inSmall:
		return c.endLetters(run, smallKind(run), api.MaxName)
	case inGreat:
		return c.endLetters(run, api.TokenMethod, api.MaxMethod)
	}
	if strings.ContainsAny(run, "./") {
		return c.endPrefix(run)
	}
	return c.endNumber(run)
}

func smallKind(run string) int {
	if IsWord(run) {
		return api.TokenWord
	}
	return api.TokenName
}

func (c *scanner) endLetters(run string, kind, most int) api.Errno {
	if len(run) > most {
		return api.ErrLexName
	}
	c.add(api.Token{Kind: kind, Text: run})
	return api.OK
}

func (c *scanner) endPrefix(run string) api.Errno {
	p, e := addr.ParsePrefix(run)
	if e != api.OK {
		return api.ErrLexNumber
	}
	c.add(api.Token{Kind: api.TokenPrefix, Prefix: p})
	return api.OK
}

func (c *scanner) endNumber(run string) api.Errno {
	// A word has 32 bits: what does not fit is refused here.
	n, err := strconv.ParseUint(run, 10, 32)
	if err != nil || run[0] == '0' && run != "0" {
		return api.ErrLexNumber
	}
	c.add(api.Token{Kind: api.TokenNumber, Number: int(n)})
	return api.OK
}

// stepText takes a rune of a text that no backslash stands ahead of.
func (c *scanner) stepText(r rune) api.Errno {
	switch {
	case r == '"':
		c.add(api.Token{Kind: api.TokenText, Text: c.meant.String()})
		c.meant.Reset()
		c.in = inNothing
		return api.OK
	case r == '\\':
		c.in = inEscape
		return api.OK
	}
	return c.mean(r)
}

// stepEscape takes a rune of a text that a backslash stands ahead of.
func (c *scanner) stepEscape(r rune) api.Errno {
	if !isEscaped(r) {
		return api.ErrLexText
	}
	c.in = inText
	return c.mean(r)
}

// mean takes a rune that a text means.
func (c *scanner) mean(r rune) api.Errno {
	if !isTextRune(r) || c.meant.Len() == maxText {
		return api.ErrLexText
	}
	c.meant.WriteRune(r)
	return api.OK
}

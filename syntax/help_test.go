package syntax_test

import (
	"fmt"
	"math/rand"
	"strconv"
	"strings"
	"testing"

	"lychgate/api"
	"lychgate/lex"
	"lychgate/syntax"
)

// answer is what Parse answers.
type answer struct {
	policy api.Policy
	e      api.Errno
	at     int
}

func parse(s string) answer {
	p, e, at := syntax.Parse(s)
	return answer{p, e, at}
}

// told is an answer with all its parts and places; lists without elements look the same.
func (a answer) told() string { return fmt.Sprintf("%+v", a) }

// checkParse holds Parse against the words.
func checkParse(t *testing.T, s string) answer {
	t.Helper()
	got, want := parse(s), wordsParse(s)
	if got.told() != want.told() {
		t.Fatalf("Parse(%s):\n%s, want\n%s", short(s), short(got.told()), short(want.told()))
	}
	return got
}

// short cuts a text that is too long to be told.
func short(s string) string {
	if len(s) > 600 {
		return strconv.Quote(s[:600]) + "... (" + strconv.Itoa(len(s)) + " bytes)"
	}
	return strconv.Quote(s)
}

func repeat(s string, n int) string { return strings.Repeat(s, n) }

// row is a text, n times, with another one between.
func row(s, between string, n int) string {
	return strings.TrimSuffix(repeat(s+between, n), between)
}

func pick(r *rand.Rand, l ...string) string { return l[r.Intn(len(l))] }

// What follows makes conditions by chance, and lays them down as sources with more brackets and blanks than are needed.

func randomName(r *rand.Rand) string {
	return pick(r, "a", "b", "z9", "a-1", "lets", "x_y", "or-", repeat("n", 32))
}

func randomText(r *rand.Rand) string {
	return pick(r, "", "a", "/pub/**", `"`, `\`, `\"`, "#", " ~ ", "and", ")", repeat("t", r.Intn(201)))
}

func randomNumber(r *rand.Rand) int {
	return []int{0, 1, 80, 65535, 65536, api.MaxWord, r.Intn(1 << 32)}[r.Intn(7)]
}

func randomPrefix(r *rand.Rand) api.Prefix {
	bits := r.Intn(33)
	return api.Prefix{Addr: r.Intn(1<<32) >> (32 - bits) << (32 - bits), Bits: bits}
}

func randomTest(r *rand.Rand) api.Cond {
	c := api.Cond{Kind: []int{1, 2, 3, 3, 3, 7, 8, 9, 10, 11, 12}[r.Intn(11)]}
	n := 1 + r.Intn(3)
	switch c.Kind {
	case api.CondName:
		c.Name = randomName(r)
	case api.CondAddr:
		for range n {
			c.Prefixes = append(c.Prefixes, randomPrefix(r))
		}
	case api.CondPort:
		for range n {
			lo := randomNumber(r)
			c.Spans = append(c.Spans, api.Span{Lo: lo, Hi: []int{lo, randomNumber(r)}[r.Intn(2)]})
		}
	case api.CondMethod:
		for range n {
			c.Names = append(c.Names, pick(r, "GET", "PUT", "A", "Z", repeat("M", 16)))
		}
	case api.CondPath:
		c.Text = randomText(r)
	case api.CondHeader:
		c.Name, c.Text = randomText(r), randomText(r)
	case api.CondHas:
		c.Name = randomText(r)
	}
	return c
}

// randomCond has a depth of at most deep.
func randomCond(r *rand.Rand, deep int) api.Cond {
	if deep <= 1 || r.Intn(4) == 0 {
		return randomTest(r)
	}
	c := api.Cond{Kind: []int{api.CondNot, api.CondAnd, api.CondOr}[r.Intn(3)]}
	n := 1
	if c.Kind != api.CondNot {
		n = 2 + r.Intn(2)
	}
	for range n {
		c.Kids = append(c.Kids, randomCond(r, deep-1))
	}
	return c
}

func randomPolicy(r *rand.Rand) api.Policy {
	var p api.Policy
	for range r.Intn(4) {
		p.Items = append(p.Items, api.Item{Kind: 1 + r.Intn(3), Name: randomName(r), Cond: randomCond(r, 1+r.Intn(5))})
	}
	return p
}

// layer lays tokens down, and writes into a policy where its parts begin.
type layer struct {
	r      *rand.Rand // nil: as short as can be
	source string
	last   string
}

// needsBlank: would two tokens become one?
func needsBlank(a, b string) bool {
	isRun := func(s string) bool { return s != "" && strings.ContainsAny(s[:1], letters) }
	return isRun(a) && isRun(b)
}

const letters = "abcdefghijklmnopqrstuvwxyzABCDEFGHIJKLMNOPQRSTUVWXYZ"

// put lays one token down; the place where it begins.
func (l *layer) put(token string) int {
	between := ""
	if l.r != nil && l.r.Intn(3) == 0 {
		between = pick(l.r, " ", "\t", "\n", "\r\n", "  ", "# ; \"\n", "#\n")
	}
	if between == "" && needsBlank(l.last, token) {
		between = " "
	}
	at := len(l.source) + len(between)
	l.source, l.last = l.source+between+token, token
	return at
}

func (l *layer) policy(p api.Policy) api.Policy {
	var out api.Policy
	for _, x := range p.Items {
		word := []string{"let", "allow", "deny"}[x.Kind-1]
		x.At = l.put(word)
		l.put(x.Name)
		l.put(map[string]string{"let": "=", "allow": "when", "deny": "when"}[word])
		x.Cond = l.cond(x.Cond, "")
		l.put(";")
		out.Items = append(out.Items, x)
	}
	return out
}

// inBrackets: is it needed that a condition stands in brackets, as a part of what around says?
func inBrackets(kind int, around string) bool {
	switch around {
	case "or":
		return kind == api.CondOr
	case "and", "not":
		return kind == api.CondOr || kind == api.CondAnd
	}
	return false
}

func (l *layer) cond(c api.Cond, around string) api.Cond {
	brackets := 0
	if inBrackets(c.Kind, around) {
		brackets++
	}
	for l.r != nil && l.r.Intn(5) == 0 {
		brackets++
	}
	for range brackets {
		l.put("(")
	}
	c = l.bare(c)
	for range brackets {
		l.put(")")
	}
	return c
}

func (l *layer) bare(c api.Cond) api.Cond {
	var kids []api.Cond
	switch c.Kind {
	case api.CondName:
		c.At = l.put(c.Name)
	case api.CondNot:
		c.At = l.put("not")
		kids = append(kids, l.cond(c.Kids[0], "not"))
	case api.CondAnd, api.CondOr:
		word := map[int]string{api.CondAnd: "and", api.CondOr: "or"}[c.Kind]
		for i, kid := range c.Kids {
			if i > 0 {
				l.put(word)
			}
			kids = append(kids, l.cond(kid, word))
		}
		c.At = kids[0].At
	default:
		c.At = l.test(c)
	}
	c.Kids = kids
	return c
}

func (l *layer) test(c api.Cond) int {
	tokens := strings.Split(testTokens(c), "\x00")
	at := l.put(tokens[0])
	for _, token := range tokens[1:] {
		l.put(token)
	}
	return at
}

// testTokens are those of a condition without operators, with bytes 0 between.
func testTokens(c api.Cond) string {
	list := func(word string, parts []string) string {
		return word + "\x00in\x00{\x00" + strings.Join(parts, "\x00,\x00") + "\x00}"
	}
	var parts []string
	switch c.Kind {
	case api.CondTrue:
		return "true"
	case api.CondFalse:
		return "false"
	case api.CondAddr:
		for _, p := range c.Prefixes {
			text := fmt.Sprintf("%d.%d.%d.%d", p.Addr>>24, p.Addr>>16&255, p.Addr>>8&255, p.Addr&255)
			if p.Bits != 32 {
				text += fmt.Sprintf("/%d", p.Bits)
			}
			parts = append(parts, text)
		}
		return list("addr", parts)
	case api.CondPort:
		for _, s := range c.Spans {
			if s.Lo == s.Hi {
				parts = append(parts, fmt.Sprint(s.Lo))
			} else {
				parts = append(parts, fmt.Sprintf("%d\x00-\x00%d", s.Lo, s.Hi))
			}
		}
		return list("port", parts)
	case api.CondMethod:
		return list("method", c.Names)
	case api.CondPath:
		return "path\x00~\x00" + quoted(c.Text)
	case api.CondHeader:
		return "header\x00" + quoted(c.Name) + "\x00~\x00" + quoted(c.Text)
	}
	return "has\x00" + quoted(c.Name)
}

func quoted(s string) string {
	return `"` + strings.NewReplacer(`\`, `\\`, `"`, `\"`).Replace(s) + `"`
}

// laid is a policy as a source, with the places where its parts begin there; r nil: the shortest one.
func laid(p api.Policy, r *rand.Rand) (string, api.Policy) {
	l := layer{r: r}
	p = l.policy(p)
	return l.source, p
}

// tokensOf are a source's tokens as they stand there.
func tokensOf(s string) []string {
	tokens, _, _ := lex.Scan(s)
	var l []string
	for i := 0; i+1 < len(tokens); i++ {
		piece := strings.TrimRight(s[tokens[i].At:tokens[i+1].At], " \t\r\n")
		l = append(l, piece)
	}
	return l
}

package verdict_test

import (
	"fmt"
	"go/ast"
	"go/constant"
	"go/parser"
	"go/token"
	"go/types"
	"math/rand"
	"regexp"
	"slices"
	"strings"
	"testing"

	"lychgate/api"
	"lychgate/check"
	"lychgate/glob"
)

// What follows is about policies by the chapter's words, by other means than the package does: what is put together of conditions is written as constants of Go, whose values its type checker finds.

// wordsHeld says of each item of a policy that is taken whether it holds of a right request.
func wordsHeld(t *testing.T, p api.Policy, r api.Request) []bool {
	t.Helper()
	s := "package p\n"
	places := map[string]int{}
	for i, x := range p.Items {
		s += fmt.Sprintf("const i%d = %s\n", i, written(x.Cond, r, places))
		places[x.Name] = i
	}
	files := token.NewFileSet()
	f, err := parser.ParseFile(files, "p.go", s, 0)
	if err != nil {
		t.Fatal(s, err)
	}
	pack, err := new(types.Config).Check("p", files, []*ast.File{f}, nil)
	if err != nil {
		t.Fatal(s, err)
	}
	held := []bool{}
	for i := range p.Items {
		held = append(held, constant.BoolVal(pack.Scope().Lookup(fmt.Sprint("i", i)).(*types.Const).Val()))
	}
	return held
}

// written is a condition as Go writes it; places are those of the items ahead.
func written(c api.Cond, r api.Request, places map[string]int) string {
	var kids []string
	for _, kid := range c.Kids {
		kids = append(kids, written(kid, r, places))
	}
	switch c.Kind {
	case api.CondTrue, api.CondFalse:
		return fmt.Sprint(c.Kind == api.CondTrue)
	case api.CondName:
		return fmt.Sprint("i", places[c.Name])
	case api.CondNot:
		return "!" + kids[0]
	case api.CondAnd:
		return "(" + strings.Join(kids, " && ") + ")"
	case api.CondOr:
		return "(" + strings.Join(kids, " || ") + ")"
	}
	return fmt.Sprint(wordsPasses(c, r))
}

// wordsPasses: does a request pass what a condition without parts asks, as it is written?
func wordsPasses(c api.Cond, r api.Request) bool {
	value, is := "", false
	for _, f := range r.Headers {
		if f.Name == c.Name {
			value, is = f.Value, true
		}
	}
	switch c.Kind {
	case api.CondAddr:
		return slices.ContainsFunc(c.Prefixes, func(p api.Prefix) bool {
			return fmt.Sprintf("%032b", r.Addr)[:p.Bits] == fmt.Sprintf("%032b", p.Addr)[:p.Bits]
		})
	case api.CondPort:
		return slices.ContainsFunc(c.Spans, func(s api.Span) bool { return s.Lo <= r.Port && r.Port <= s.Hi })
	case api.CondMethod:
		return strings.Contains(","+strings.Join(c.Names, ",")+",", ","+r.Method+",")
	case api.CondPath:
		return pattern(c.Text).MatchString(r.Path)
	case api.CondHeader:
		return is && pattern(c.Text).MatchString(value)
	}
	return is
}

// pattern is a pattern's text as an expression that says the same of bytes from 0 to 127.
func pattern(s string) *regexp.Regexp {
	pieces, _, _ := glob.Parse(s)
	out := `\A`
	for _, p := range pieces {
		switch p.Kind {
		case api.PieceByte:
			out += regexp.QuoteMeta(string(rune(p.B)))
		case api.PieceAny:
			out += `[^/]`
		case api.PieceStar:
			out += `[^/]*`
		case api.PieceDeep:
			out += `(?s:.*)`
		case api.PieceSet:
			out += "(?:"
			for b := range 128 {
				in := slices.ContainsFunc(p.Set, func(s api.Span) bool { return s.Lo <= b && b <= s.Hi })
				if b != '/' && in != p.Not {
					out += fmt.Sprintf(`\x%02x|`, b)
				}
			}
			out += `[^\x00-\x{10ffff}])`
		}
	}
	return regexp.MustCompile(out + `\z`)
}

// wordsVerdict is what a policy says whose items hold so, and where: rules that deny are ahead of those that allow, and what is ahead of the first item is behind all of them.
func wordsVerdict(p api.Policy, held []bool) (int, int) {
	v, at := api.Deny, -1
	for i := len(p.Items) - 1; i >= 0; i-- {
		if p.Items[i].Kind == api.ItemAllow && held[i] {
			v, at = api.Allow, i
		}
	}
	for i := len(p.Items) - 1; i >= 0; i-- {
		if p.Items[i].Kind == api.ItemDeny && held[i] {
			v, at = api.Deny, i
		}
	}
	return v, at
}

// accepted is a source's policy.
func accepted(t *testing.T, s string) api.Policy {
	t.Helper()
	p, e, at := check.Accept(s)
	if e != api.OK {
		t.Fatalf("%s: error %d at %d", s, e, at)
	}
	return p
}

func pick[T any](r *rand.Rand, l ...T) T {
	return l[r.Intn(len(l))]
}

// some is a row of 1 to n things.
func some[T any](r *rand.Rand, n int, one func() T) []T {
	var l []T
	for range 1 + r.Intn(n) {
		l = append(l, one())
	}
	return l
}

// leaf is a condition without parts, that speaks of what requests by chance often have.
func leaf(r *rand.Rand, lets []string) api.Cond {
	c := api.Cond{Kind: pick(r, 1, 2, 3, 3, 3, 7, 8, 9, 10, 11, 12), At: r.Intn(99)}
	name := pick(r, "a", "b", "x-y", strings.Repeat("k", 32))
	text := strings.Join(some(r, 3, func() string { return pick(r, "", "/", "a", "b", "?", "*", "**", "[a-c]", "[!a]") }), "")
	switch c.Kind {
	case api.CondName:
		if len(lets) == 0 {
			return api.Cond{Kind: api.CondTrue}
		}
		c.Name = pick(r, lets...)
	case api.CondAddr:
		c.Prefixes = some(r, 3, func() api.Prefix {
			return pick(r, api.Prefix{}, api.Prefix{Bits: 1}, api.Prefix{Addr: 10 << 24, Bits: 8}, api.Prefix{Addr: 11 << 24, Bits: 8}, api.Prefix{Addr: 1<<32 - 1, Bits: 32}, api.Prefix{Addr: 10<<24 + 1, Bits: 32})
		})
	case api.CondPort:
		c.Spans = some(r, 3, func() api.Span { lo := pick(r, 0, 79, 80, 65534); return api.Span{Lo: lo, Hi: lo + r.Intn(2)} })
	case api.CondMethod:
		c.Names = some(r, 3, func() string { return method(r) })
	case api.CondPath:
		c.Text = "/" + text
	case api.CondHeader:
		c.Name, c.Text = name, text
	case api.CondHas:
		c.Name = name
	}
	return c
}

func method(r *rand.Rand) string {
	return pick(r, "GET", "PUT", "A", "ABCDEFGHIJKLMNOP")
}

// tree is a condition that goes down so far at most.
func tree(r *rand.Rand, deep int, lets []string) api.Cond {
	kind := pick(r, 0, 0, api.CondNot, api.CondAnd, api.CondOr)
	if kind == 0 || deep == 1 {
		return leaf(r, lets)
	}
	c := api.Cond{Kind: kind, At: r.Intn(99), Kids: []api.Cond{tree(r, deep-1, lets)}}
	if kind != api.CondNot {
		c.Kids = append(c.Kids, some(r, 3, func() api.Cond { return tree(r, deep-1, lets) })...)
	}
	return c
}

// randomPolicy is one that is taken, of so many items at most.
func randomPolicy(r *rand.Rand, most int) api.Policy {
	for {
		var p api.Policy
		var lets []string
		names := r.Perm(most) // so that names do not rise
		for i := range r.Intn(most + 1) {
			x := api.Item{Kind: pick(r, 1, 1, 2, 3), Name: fmt.Sprint("n", names[i]), Cond: tree(r, 4, lets), At: r.Intn(99)}
			if x.Kind == api.ItemLet {
				lets = append(lets, x.Name)
			}
			p.Items = append(p.Items, x)
		}
		if e, _ := check.Check(p); e == api.OK {
			return p
		}
	}
}

// randomRequest is a right one.
func randomRequest(r *rand.Rand) api.Request {
	q := api.Request{Method: method(r), Path: "/", Addr: pick(r, 0, 10<<24, 10<<24+1, 11<<24, 1<<31, 1<<32-1), Port: pick(r, 0, 1, 79, 80, 81, 65534, 65535)}
	if r.Intn(4) > 0 {
		q.Path = "/" + strings.Join(some(r, 3, func() string { return pick(r, "a", "b", "ab", "*", "a.b") }), "/")
	}
	for _, name := range []string{"a", "b", strings.Repeat("k", 32), "x-y", "z"} {
		if r.Intn(2) == 0 {
			q.Headers = append(q.Headers, api.Field{Name: name, Value: pick(r, "", "a", "b", "/", "a/b", "ab", "*", "a b")})
		}
	}
	return q
}

package atom_test

import (
	"fmt"
	"math/rand"
	"regexp"
	"slices"
	"sort"
	"strings"
	"testing"

	"lychgate/api"
	"lychgate/glob"
	"lychgate/syntax"
)

// What follows is about tests by the chapter's words, by other means than the package does.

var (
	methodForm = regexp.MustCompile(`\A[A-Z]{1,16}\z`)
	nameForm   = regexp.MustCompile(`\A[a-z0-9-]{1,32}\z`)
	textForm   = regexp.MustCompile(`\A[ -~]{0,200}\z`)
)

// wordsOf is the test of a condition; false, if it is no atomic condition.
func wordsOf(c api.Cond) (api.Atom, bool) {
	if !wordsAtomic(c) {
		return api.Atom{}, false
	}
	a := api.Atom{Kind: c.Kind, Name: c.Name}
	switch c.Kind {
	case api.CondAddr, api.CondPort:
		a.Spans = wordsSet(c)
	case api.CondMethod:
		there := map[string]bool{}
		for _, s := range c.Names {
			there[s] = true
		}
		for s := range there {
			a.Names = append(a.Names, s)
		}
		sort.Strings(a.Names)
	case api.CondPath, api.CondHeader:
		a.Pieces, _, _ = glob.Parse(c.Text)
	}
	return a, true
}

func wordsAtomic(c api.Cond) bool {
	bare := c
	ok := false
	few := func(n int) bool { return n >= 1 && n <= 32 }
	switch c.Kind {
	case api.CondAddr:
		bare.Prefixes = nil
		ok = few(len(c.Prefixes)) && all(c.Prefixes, func(p api.Prefix) bool {
			return p.Bits >= 0 && p.Bits <= 32 && p.Addr >= 0 && p.Addr < 1<<32 && p.Addr%(1<<(32-p.Bits)) == 0
		})
	case api.CondPort:
		bare.Spans = nil
		ok = few(len(c.Spans)) && all(c.Spans, func(s api.Span) bool { return s.Lo >= 0 && s.Lo <= s.Hi && s.Hi < 65536 })
	case api.CondMethod:
		bare.Names = nil
		ok = few(len(c.Names)) && all(c.Names, methodForm.MatchString)
	case api.CondPath:
		bare.Text = ""
		ok = isPattern(c.Text)
	case api.CondHeader:
		bare.Name, bare.Text = "", ""
		ok = nameForm.MatchString(c.Name) && isPattern(c.Text)
	case api.CondHas:
		bare.Name = ""
		ok = nameForm.MatchString(c.Name)
	}
	bare.Kind, bare.At = 0, 0
	return ok && bare.Name+bare.Text == "" && len(bare.Prefixes)+len(bare.Spans)+len(bare.Names)+len(bare.Kids) == 0
}

func all[T any](l []T, is func(T) bool) bool {
	return !slices.ContainsFunc(l, func(x T) bool { return !is(x) })
}

func isPattern(s string) bool {
	_, e, _ := glob.Parse(s)
	return e == api.OK && textForm.MatchString(s)
}

// wordsSet is the set of all numbers that a condition of addresses or ports has: where it begins and ends to have them is asked number by number, there where that can change.
func wordsSet(c api.Cond) []api.Span {
	var set []api.Span
	turns := append(turns(c), 1<<32)
	in := false
	for _, n := range turns {
		has := n < 1<<32 && wordsHas(c, n)
		if has && !in {
			set = append(set, api.Span{Lo: n})
		}
		if !has && in {
			set[len(set)-1].Hi = n - 1
		}
		in = has
	}
	return set
}

// turns are the numbers at which a condition of addresses or ports may begin or end to have them, rising.
func turns(c api.Cond) []int {
	var l []int
	for _, p := range c.Prefixes {
		l = append(l, p.Addr, p.Addr+1<<(32-p.Bits))
	}
	for _, s := range c.Spans {
		l = append(l, s.Lo, s.Hi+1)
	}
	sort.Ints(l)
	return l
}

// wordsHas: has a condition of addresses or ports a number?
func wordsHas(c api.Cond, n int) bool {
	for _, p := range c.Prefixes {
		if fmt.Sprintf("%032b", n)[:p.Bits] == fmt.Sprintf("%032b", p.Addr)[:p.Bits] {
			return true
		}
	}
	for _, s := range c.Spans {
		if s.Lo <= n && n <= s.Hi {
			return true
		}
	}
	return false
}

// wordsHolds: does an atomic condition hold of a request, as it is written?
func wordsHolds(c api.Cond, r api.Request) bool {
	value, is := "", false
	for _, f := range r.Headers {
		if f.Name == c.Name {
			value, is = f.Value, true
		}
	}
	switch c.Kind {
	case api.CondAddr:
		return wordsHas(c, r.Addr)
	case api.CondPort:
		return wordsHas(c, r.Port)
	case api.CondMethod:
		return strings.Contains(","+strings.Join(c.Names, ",")+",", ","+r.Method+",")
	case api.CondPath:
		return pattern(c.Text).MatchString(r.Path)
	case api.CondHeader:
		return is && pattern(c.Text).MatchString(value)
	}
	return is
}

// pattern is a pattern's text as an expression that says the same of bytes from 0 to 127.
func pattern(s string) *regexp.Regexp {
	pieces, _, _ := glob.Parse(s)
	out := `\A`
	for _, p := range pieces {
		switch p.Kind {
		case api.PieceByte:
			out += regexp.QuoteMeta(string(rune(p.B)))
		case api.PieceAny:
			out += `[^/]`
		case api.PieceStar:
			out += `[^/]*`
		case api.PieceDeep:
			out += `(?s:.*)`
		case api.PieceSet:
			out += "(?:"
			for b := range 128 {
				in := slices.ContainsFunc(p.Set, func(s api.Span) bool { return s.Lo <= b && b <= s.Hi })
				if b != '/' && in != p.Not {
					out += fmt.Sprintf(`\x%02x|`, b)
				}
			}
			out += `[^\x00-\x{10ffff}])`
		}
	}
	return regexp.MustCompile(out + `\z`)
}

// wordsRight: is a test right?
func wordsRight(a api.Atom) bool {
	_, e := glob.Match(a.Pieces, "")
	pieces, name := e == api.OK, nameForm.MatchString(a.Name)
	has := [4]bool{a.Name != "", len(a.Spans) > 0, len(a.Names) > 0, len(a.Pieces) > 0}
	switch a.Kind {
	case api.CondAddr:
		return has == [4]bool{1: true} && wordsRising(a.Spans, 1<<32)
	case api.CondPort:
		return has == [4]bool{1: true} && wordsRising(a.Spans, 65536)
	case api.CondMethod:
		sorted := slices.Compact(slices.Sorted(slices.Values(a.Names)))
		return has == [4]bool{2: true} && len(a.Names) <= 32 && all(a.Names, methodForm.MatchString) && slices.Equal(sorted, a.Names)
	case api.CondPath:
		return has == [4]bool{3: has[3]} && pieces
	case api.CondHeader:
		return has == [4]bool{0: true, 3: has[3]} && name && pieces
	case api.CondHas:
		return has == [4]bool{0: true} && name
	}
	return false
}

// wordsRising: do spans rise, all their numbers below an end, with at least one between two?
func wordsRising(l []api.Span, end int) bool {
	ahead := -2
	for _, s := range l {
		if s.Lo < ahead+2 || s.Hi < s.Lo || s.Hi >= end {
			return false
		}
		ahead = s.Hi
	}
	return true
}

// told is all that a test has, for a message, and so that two can be held against each other.
func told(a api.Atom) string {
	s := fmt.Sprintf("%d %q", a.Kind, a.Name)
	for _, x := range a.Spans {
		s += fmt.Sprintf(" %d-%d", x.Lo, x.Hi)
	}
	for _, x := range a.Names {
		s += fmt.Sprintf(" %q", x)
	}
	for _, x := range a.Pieces {
		s += fmt.Sprintf(" (%d %d %t", x.Kind, x.B, x.Not)
		for _, y := range x.Set {
			s += fmt.Sprintf(" %d-%d", y.Lo, y.Hi)
		}
		s += ")"
	}
	return s
}

// cond is the condition of a source.
func cond(t *testing.T, s string) api.Cond {
	t.Helper()
	return policy(t, "allow a when "+s+";").Items[0].Cond
}

func policy(t *testing.T, s string) api.Policy {
	t.Helper()
	p, e, at := syntax.Parse(s)
	if e != api.OK {
		t.Fatalf("%s: error %d at %d", s, e, at)
	}
	return p
}

func pick[T any](r *rand.Rand, l ...T) T {
	return l[r.Intn(len(l))]
}

// some is a row of 1 to n things.
func some[T any](r *rand.Rand, n int, one func() T) []T {
	var l []T
	for range 1 + r.Intn(n) {
		l = append(l, one())
	}
	return l
}

func randomName(r *rand.Rand) string {
	return pick(r, "a", "b", "x-y", "0", "-", "host", strings.Repeat("k", 32))
}

func randomText(r *rand.Rand) string {
	return strings.Join(some(r, 4, func() string { return pick(r, "", "/", "a", "b", "?", "*", "**", "[a-c]", "[!a]", `\*`, "[ -~]") }), "")
}

func randomMethod(r *rand.Rand) string {
	return pick(r, "GET", "PUT", "A", "B", "GETS", "ABCDEFGHIJKLMNOP")
}

// randomPrefix has few bits in which it may be another than others, so that prefixes meet, and lie side by side.
func randomPrefix(r *rand.Rand) api.Prefix {
	bits := pick(r, 0, 1, 2, 3, 8, 9, 30, 31, 32, 32)
	n := pick(r, 0, 10<<24, 11<<24, 1<<31, 1<<32-8, 10<<24+8) + r.Intn(8)
	return api.Prefix{Addr: n >> (32 - bits) << (32 - bits), Bits: bits}
}

func randomSpan(r *rand.Rand) api.Span {
	lo := pick(r, 0, 80, 443, 65520) + r.Intn(12)
	return api.Span{Lo: lo, Hi: min(65535, lo+pick(r, 0, 0, 1, 2, 5, 400))}
}

// randomCond is an atomic condition.
func randomCond(r *rand.Rand) api.Cond {
	c := api.Cond{Kind: api.CondAddr + r.Intn(6), At: r.Intn(99)}
	parts := pick(r, 1, 2, 5, 32)
	switch c.Kind {
	case api.CondAddr:
		c.Prefixes = some(r, parts, func() api.Prefix { return randomPrefix(r) })
	case api.CondPort:
		c.Spans = some(r, parts, func() api.Span { return randomSpan(r) })
	case api.CondMethod:
		c.Names = some(r, parts, func() string { return randomMethod(r) })
	case api.CondPath:
		c.Text = randomText(r)
	case api.CondHeader:
		c.Name, c.Text = randomName(r), randomText(r)
	case api.CondHas:
		c.Name = randomName(r)
	}
	return c
}

// randomRequest is a right request.
func randomRequest(r *rand.Rand) api.Request {
	q := api.Request{Method: randomMethod(r), Addr: randomPrefix(r).Addr, Port: randomSpan(r).Hi, Path: "/"}
	if r.Intn(4) > 0 {
		q.Path = "/" + strings.Join(some(r, 3, func() string { return pick(r, "a", "b", "ab", "*", "a.b") }), "/")
	}
	for _, name := range []string{"-", "0", "a", "b", "host", strings.Repeat("k", 32), "x-y"} {
		if r.Intn(2) == 0 {
			q.Headers = append(q.Headers, api.Field{Name: name, Value: pick(r, "", "a", "b", "/", "a/b", "ab", "*", "a b")})
		}
	}
	return q
}

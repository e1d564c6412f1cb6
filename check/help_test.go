package check_test

import (
	"fmt"
	"math/rand"
	"regexp"
	"sort"
	"strings"
	"testing"

	"lychgate/api"
	"lychgate/glob"
	"lychgate/syntax"
)

// What follows is about policies by the chapter's words, by other means than the package does.

var nameForm = regexp.MustCompile(`\A[a-z0-9-]{1,32}\z`)

// step is a place of a policy at which something may be wrong: an item, or (with a condition) one within it.
type step struct {
	item int
	cond *api.Cond
}

// steps are all places of a policy, in the order in which it is gone through.
func steps(p api.Policy) []step {
	var out []step
	for i := range p.Items {
		out = append(out, step{item: i})
		left := []*api.Cond{&p.Items[i].Cond}
		for len(left) > 0 {
			c := left[len(left)-1]
			left = left[:len(left)-1]
			out = append(out, step{i, c})
			for k := len(c.Kids); k > 0; k-- {
				left = append(left, &c.Kids[k-1])
			}
		}
	}
	return out
}

// wordsCheck is what Check must say of a right policy.
func wordsCheck(p api.Policy) (api.Errno, int) {
	all := steps(p)
	for n, x := range all {
		item := p.Items[x.item]
		if x.cond == nil {
			if _, is := names(p, x.item)[item.Name]; is {
				return api.ErrCheckTwice, item.At
			}
			continue
		}
		if e := wordsCond(p, x); e != api.OK {
			return e, x.cond.At
		}
		headers, tests := counted(all[:n+1])
		if x.cond.Kind >= api.CondAddr && (len(headers) > 4 || len(tests) > 64) {
			return api.ErrCheckMany, x.cond.At
		}
	}
	return api.OK, 0
}

// names are those of a policy's first items, and their kinds.
func names(p api.Policy, n int) map[string]int {
	kinds := map[string]int{}
	for _, x := range p.Items[:n] {
		kinds[x.Name] = x.Kind
	}
	return kinds
}

// wordsCond is what is wrong with a condition, but for how many there are.
func wordsCond(p api.Policy, x step) api.Errno {
	c := x.cond
	text := map[int]bool{api.CondPath: true, api.CondHeader: true}
	named := map[int]bool{api.CondHas: true, api.CondHeader: true}
	if c.Kind == api.CondName && names(p, x.item)[c.Name] != api.ItemLet {
		return api.ErrCheckNone
	}
	for _, s := range c.Spans {
		if s.Hi < s.Lo || s.Hi >= 65536 {
			return api.ErrCheckRange
		}
	}
	if _, e, _ := glob.Parse(c.Text); text[c.Kind] && e != api.OK {
		return api.ErrCheckGlob
	}
	if named[c.Kind] && !nameForm.MatchString(c.Name) {
		return api.ErrCheckHeader
	}
	return api.OK
}

// counted are the headers' names and the tests at some places, none of which has anything else that is wrong.
func counted(l []step) (headers, tests map[string]bool) {
	headers, tests = map[string]bool{}, map[string]bool{}
	for _, x := range l {
		if x.cond == nil || x.cond.Kind < api.CondAddr {
			continue
		}
		tests[told(*x.cond)] = true
		if x.cond.Kind >= api.CondHeader {
			headers[x.cond.Name] = true
		}
	}
	return headers, tests
}

// told is a text that two atomic conditions have in common just if they have the same test.
func told(c api.Cond) string {
	s := fmt.Sprintf("%d %q", c.Kind, c.Name)
	switch c.Kind {
	case api.CondAddr, api.CondPort:
		for _, n := range turns(c) {
			if has(c, n) != has(c, n-1) {
				s += fmt.Sprint(" ", n)
			}
		}
	case api.CondMethod:
		there := map[string]bool{}
		for _, m := range c.Names {
			there[m] = true
		}
		s += fmt.Sprint(there) // keys are printed in their order
	default:
		pieces, _, _ := glob.Parse(c.Text)
		s += fmt.Sprintf(" %+v", pieces)
	}
	return s
}

// turns are the numbers at which a condition of addresses or ports may begin or end to have them, rising, each once.
func turns(c api.Cond) []int {
	there := map[int]bool{}
	for _, p := range c.Prefixes {
		there[p.Addr], there[p.Addr+1<<(32-p.Bits)] = true, true
	}
	for _, s := range c.Spans {
		there[s.Lo], there[s.Hi+1] = true, true
	}
	var l []int
	for n := range there {
		l = append(l, n)
	}
	sort.Ints(l)
	return l
}

func has(c api.Cond, n int) bool {
	for _, p := range c.Prefixes {
		if n >= 0 && n>>(32-p.Bits) == p.Addr>>(32-p.Bits) {
			return true
		}
	}
	for _, s := range c.Spans {
		if s.Lo <= n && n <= s.Hi {
			return true
		}
	}
	return false
}

// wordsHeaders are the headers' names of a policy that is taken.
func wordsHeaders(p api.Policy) []string {
	headers, _ := counted(steps(p))
	l := []string{}
	for s := range headers {
		l = append(l, s)
	}
	sort.Strings(l)
	return l
}

// policy is what a source says.
func policy(t *testing.T, s string) api.Policy {
	t.Helper()
	p, e, at := syntax.Parse(s)
	if e != api.OK {
		t.Fatalf("%s: error %d at %d", s, e, at)
	}
	return p
}

func pick[T any](r *rand.Rand, l ...T) T {
	return l[r.Intn(len(l))]
}

// some is a row of 1 to n things.
func some[T any](r *rand.Rand, n int, one func() T) []T {
	var l []T
	for range 1 + r.Intn(n) {
		l = append(l, one())
	}
	return l
}

// maker makes policies by chance: one of so many parts is wrong, one of so many names of headers is picked.
type maker struct {
	*rand.Rand
	parts, headers int
}

func (m *maker) wrong() bool { return m.Intn(m.parts) == 0 }

func (m *maker) header() string {
	if m.wrong() {
		return pick(m.Rand, "", "A", "aB", "x_y", " a", strings.Repeat("k", 33), "a.b", "/")
	}
	return []string{"a", "x-y", "0", strings.Repeat("k", 32), "-", "b", "ab"}[m.Intn(m.headers)]
}

func (m *maker) text() string {
	if m.wrong() {
		return pick(m.Rand, "[", "a[", "[]", "[b-a]", `\`, "[!]")
	}
	return strings.Join(some(m.Rand, 3, func() string { return pick(m.Rand, "", "/", "a", "[a]", "[a-a]", `\?`, "?", "*", "**", "[!a]") }), "")
}

func (m *maker) span() api.Span {
	if m.wrong() {
		return pick(m.Rand, api.Span{Lo: 9, Hi: 5}, api.Span{Lo: 1}, api.Span{Lo: 65536, Hi: 65536}, api.Span{Hi: 65536}, api.Span{Lo: 65536, Hi: 9})
	}
	lo := pick(m.Rand, 0, 80, 65533) + m.Intn(3)
	return api.Span{Lo: lo, Hi: min(65535, lo+m.Intn(3))}
}

func (m *maker) prefix() api.Prefix {
	return pick(m.Rand, api.Prefix{}, api.Prefix{Bits: 1}, api.Prefix{Addr: 1 << 31, Bits: 1}, api.Prefix{Addr: 10 << 24, Bits: 8}, api.Prefix{Addr: 11 << 24, Bits: 8}, api.Prefix{Addr: 10 << 24, Bits: 7}, api.Prefix{Addr: 1<<32 - 1, Bits: 32})
}

// called is a name of some lets.
func (m *maker) called(lets []string) api.Cond {
	if m.wrong() {
		return api.Cond{Kind: api.CondName, Name: pick(m.Rand, "n0", "n1", "n5", "zz")}
	}
	if len(lets) == 0 {
		return api.Cond{Kind: api.CondFalse}
	}
	return api.Cond{Kind: api.CondName, Name: pick(m.Rand, lets...)}
}

// leaf is a condition without parts.
func (m *maker) leaf(lets []string) api.Cond {
	c := api.Cond{Kind: pick(m.Rand, 1, 2, 3, 3, 7, 8, 9, 10, 11, 12)}
	switch c.Kind {
	case api.CondName:
		c = m.called(lets)
	case api.CondAddr:
		c.Prefixes = some(m.Rand, 3, m.prefix)
	case api.CondPort:
		c.Spans = some(m.Rand, 3, m.span)
	case api.CondMethod:
		c.Names = some(m.Rand, 3, func() string { return pick(m.Rand, "GET", "PUT", "A", "ABCDEFGHIJKLMNOP") })
	case api.CondPath:
		c.Text = m.text()
	case api.CondHeader:
		c.Name, c.Text = m.header(), m.text()
	case api.CondHas:
		c.Name = m.header()
	}
	c.At = m.at()
	return c
}

func (m *maker) at() int { return m.Intn(2000000) - 1000000 }

// tree is a condition that goes down so far at most.
func (m *maker) tree(deep int, lets []string) api.Cond {
	kind := pick(m.Rand, 0, 0, 0, api.CondNot, api.CondAnd, api.CondOr)
	if kind == 0 || deep == 1 {
		return m.leaf(lets)
	}
	c := api.Cond{Kind: kind, At: m.at(), Kids: []api.Cond{m.tree(deep-1, lets)}}
	if kind != api.CondNot {
		c.Kids = append(c.Kids, some(m.Rand, 3, func() api.Cond { return m.tree(deep-1, lets) })...)
	}
	return c
}

// policy is a right policy of so many items at most.
func (m *maker) policy(most int) api.Policy {
	for {
		var p api.Policy
		var lets []string
		for i := range m.Intn(most + 1) {
			x := api.Item{Kind: pick(m.Rand, 1, 1, 2, 3), Name: fmt.Sprint("n", i), Cond: m.tree(4, lets), At: m.at()}
			if m.wrong() {
				x.Name = fmt.Sprint("n", m.Intn(i+1))
			}
			if x.Kind == api.ItemLet {
				lets = append(lets, x.Name)
			}
			p.Items = append(p.Items, x)
		}
		if syntax.Right(p) {
			return p
		}
	}
}

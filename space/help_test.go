package space_test

import (
	"fmt"
	"math/rand"
	"slices"
	"strings"
	"sync"
	"testing"

	"lychgate/api"
	"lychgate/atom"
	"lychgate/glob"
	"lychgate/request"
	"lychgate/space"
)

// What follows is about attributes by the chapter's words, by other means than the package does: members are gone through one by one.

// wordsClass is the class of a member by what an attribute has.
func wordsClass(x api.Attr, m api.Sample) int {
	switch x.Kind {
	case api.AttrAddr:
		for _, row := range x.Rows {
			if fmt.Sprintf("%032b", m.Number)[:row.Prefix.Bits] == fmt.Sprintf("%032b", row.Prefix.Addr)[:row.Prefix.Bits] {
				return row.Label
			}
		}
	case api.AttrPort:
		for i := len(x.Cuts) - 1; i >= 0; i-- {
			if x.Cuts[i].From <= m.Number {
				return x.Cuts[i].Class
			}
		}
	case api.AttrMethod:
		for _, y := range x.Methods {
			if y.Name == m.Text {
				return y.Class
			}
		}
		return x.Rest
	case api.AttrPath, api.AttrHeader:
		if m.None {
			return x.Rest
		}
		return wordsLabel(x.Auto, m.Text) - 1
	}
	return -1
}

func wordsLabel(a api.Auto, s string) int {
	state, width := 0, len(a.Next)/len(a.Out)
	for _, b := range []byte(s) {
		state = a.Next[state*width+int(a.Bytes[b])]
	}
	return a.Out[state]
}

// wordsAhead: does a member stand ahead of another one of its attribute?
func wordsAhead(m, n api.Sample) bool {
	if m.None != n.None {
		return m.None
	}
	if m.Number != n.Number {
		return m.Number < n.Number
	}
	return len(m.Text) < len(n.Text) || len(m.Text) == len(n.Text) && m.Text < n.Text
}

func wordsCompare(m, n api.Sample) int {
	switch {
	case wordsAhead(m, n):
		return -1
	case wordsAhead(n, m):
		return 1
	}
	return 0
}

// with is a request whose member of an attribute is that.
func with(r api.Request, x api.Attr, m api.Sample) api.Request {
	switch x.Kind {
	case api.AttrAddr:
		r.Addr = m.Number
	case api.AttrPort:
		r.Port = m.Number
	case api.AttrMethod:
		r.Method = m.Text
	case api.AttrPath:
		r.Path = m.Text
	case api.AttrHeader:
		if !m.None {
			r.Headers = append(slices.Clip(r.Headers), api.Field{Name: x.Name, Value: m.Text})
		}
	}
	return r
}

// passed tells which of some tests a member passes, as layer 10 has it.
func passed(t *testing.T, tests []api.Atom, x api.Attr, m api.Sample) string {
	t.Helper()
	out := make([]byte, len(tests))
	for i, a := range tests {
		is, e := atom.Test(a, with(api.Request{Method: "X", Path: "/"}, x, m))
		if e != api.OK {
			t.Fatalf("%+v, %+v: error %d", a, m, e)
		}
		out[i] = '0'
		if is {
			out[i] = '1'
		}
	}
	return string(out)
}

// asking are the tests that ask an attribute.
func asking(l []api.Atom, x api.Attr) []api.Atom {
	kinds := map[int]int{api.CondAddr: api.AttrAddr, api.CondPort: api.AttrPort, api.CondMethod: api.AttrMethod, api.CondPath: api.AttrPath, api.CondHeader: api.AttrHeader, api.CondHas: api.AttrHeader}
	var out []api.Atom
	for _, a := range l {
		if kinds[a.Kind] == x.Kind && a.Name == x.Name {
			out = append(out, a)
		}
	}
	return out
}

// All paths of up to wholePath bytes, and all values of up to wholeValue, rising.
const (
	wholePath  = 3
	wholeValue = 2
)

var shortPaths = sync.OnceValue(func() []string {
	return grown("/", wholePath, func(s string) bool { p, e := request.Path(s); return e == api.OK && p == s })
})

var shortValues = sync.OnceValue(func() []string {
	return grown("", wholeValue, func(s string) bool { return strings.Trim(s, " ") == s })
})

// grown are the texts that begin so, of bytes from 32 to 126, of up to so many, that are good.
func grown(start string, most int, good func(string) bool) []string {
	var out []string
	rows := []string{start}
	for n := len(start); n <= most; n++ {
		var longer []string
		for _, s := range rows {
			if good(s) {
				out = append(out, s)
			}
			for b := byte(32); b < 127; b++ {
				longer = append(longer, s+string(b))
			}
		}
		rows = longer
	}
	return out
}

// word is the k-th one of all methods, from 0 on, in their order.
func word(k int) string {
	out := ""
	for k++; k > 0; k = (k - 1) / 26 {
		out = string(rune('A'+(k-1)%26)) + out
	}
	return out
}

// members are some of an attribute, rising, each once; all that may be the least of a class by some tests, but for long texts.
func members(r *rand.Rand, tests []api.Atom, x api.Attr) []api.Sample {
	var out []api.Sample
	texts := func(l []string) {
		for _, s := range l {
			out = append(out, api.Sample{Text: s})
		}
	}
	highest := map[int]int{api.AttrAddr: api.MaxWord, api.AttrPort: api.MaxPort}[x.Kind]
	switch x.Kind {
	case api.AttrAddr, api.AttrPort:
		l := []int{0, highest, r.Intn(highest)}
		for _, a := range tests {
			for _, s := range a.Spans {
				l = append(l, s.Lo, s.Hi, s.Lo-1, s.Hi+1, s.Lo+r.Intn(s.Hi-s.Lo+1))
			}
		}
		for _, n := range l {
			if 0 <= n && n <= highest {
				out = append(out, api.Sample{Number: n})
			}
		}
	case api.AttrMethod:
		for k := range 60 {
			texts([]string{word(k)})
		}
		for _, a := range tests {
			for _, s := range a.Names {
				texts([]string{s, s[:len(s)-1] + "A", "ABCDEFGHIJKLMNOP"[:len(s)]})
			}
		}
	case api.AttrPath:
		texts(shortPaths())
		for range 200 {
			texts([]string{randomPath(r)})
		}
	case api.AttrHeader:
		out = append(out, api.Sample{None: true})
		texts(shortValues())
		for range 200 {
			texts([]string{randomValue(r)})
		}
	}
	slices.SortFunc(out, wordsCompare)
	return slices.Compact(out)
}

// whole: are all members that may be the least of a class, and stand no further behind than this one, among those of members?
func whole(x api.Attr, m api.Sample) bool {
	switch x.Kind {
	case api.AttrPath:
		return len(m.Text) <= wholePath
	case api.AttrHeader:
		return len(m.Text) <= wholeValue
	}
	return true
}

func pick[T any](r *rand.Rand, l ...T) T {
	return l[r.Intn(len(l))]
}

func randomPath(r *rand.Rand) string {
	for {
		s := ""
		for range 1 + r.Intn(4) {
			s += "/" + pick(r, "a", "b", "ab", "ba", "abc", "a.b", "*", "...", "%2F", "!", "a/b/c/a")
		}
		if p, e := request.Path(s); e == api.OK {
			return p
		}
	}
}

func randomValue(r *rand.Rand) string {
	s := ""
	for range r.Intn(6) {
		s += pick(r, "a", "b", "c", "/", " ", "ab", "*", "~", "abc")
	}
	return strings.Trim(s, " ")
}

// pattern is one read.
func pattern(s string) []api.Piece {
	l, e, at := glob.Parse(s)
	if e != api.OK {
		panic(fmt.Sprint(s, at))
	}
	return l
}

func addrs(spans ...api.Span) api.Atom { return api.Atom{Kind: api.CondAddr, Spans: spans} }
func ports(spans ...api.Span) api.Atom { return api.Atom{Kind: api.CondPort, Spans: spans} }
func names(l ...string) api.Atom       { return api.Atom{Kind: api.CondMethod, Names: l} }
func path(s string) api.Atom           { return api.Atom{Kind: api.CondPath, Pieces: pattern(s)} }
func has(name string) api.Atom         { return api.Atom{Kind: api.CondHas, Name: name} }
func header(name, s string) api.Atom {
	return api.Atom{Kind: api.CondHeader, Name: name, Pieces: pattern(s)}
}

// randomSpans is a set that is not empty, of numbers up to the highest one.
func randomSpans(r *rand.Rand, highest int) []api.Span {
	var out []api.Span
	for range 1 + r.Intn(4) {
		lo := pick(r, 0, 1, 2, 5, 80, 90, r.Intn(100), r.Intn(highest), highest-1, highest, highest/2+1)
		hi := min(highest, lo+pick(r, 0, 0, 1, 2, 7, r.Intn(40), r.Intn(highest)))
		out = append(out, api.Span{Lo: lo, Hi: hi})
	}
	slices.SortFunc(out, func(s, u api.Span) int { return s.Lo - u.Lo })
	for i := 1; i < len(out); {
		if out[i].Lo > out[i-1].Hi+1 {
			i++
			continue
		}
		out[i-1].Hi = max(out[i-1].Hi, out[i].Hi)
		out = slices.Delete(out, i, i+1)
	}
	return out
}

func randomTest(r *rand.Rand) api.Atom {
	name := pick(r, "k", "a", "x-1")
	text := ""
	for range r.Intn(4) {
		text += pick(r, "a", "b", "/", "?", "*", "**", "[a-c]", "[!a]", "ab", " ")
	}
	switch r.Intn(6) {
	case 0:
		return addrs(randomSpans(r, api.MaxWord)...)
	case 1:
		return ports(randomSpans(r, api.MaxPort)...)
	case 2:
		var l []string
		for range 1 + r.Intn(5) {
			l = append(l, pick(r, word(r.Intn(3)), word(r.Intn(30)), word(r.Intn(800)), "GET", "PUT", "ABCDEFGHIJKLMNOP", "ZZZZZZZZZZZZZZZZ"))
		}
		slices.Sort(l)
		return names(slices.Compact(l)...)
	case 3:
		return path(pick(r, "/", "/", "**/", "*", "") + text)
	case 4:
		return header(name, text)
	}
	return has(name)
}

// randomTests are some, no two the same.
func randomTests(r *rand.Rand, most int) []api.Atom {
	var out []api.Atom
	for range r.Intn(most + 1) {
		a := randomTest(r)
		if !slices.ContainsFunc(out, func(b api.Atom) bool { return atom.Same(a, b) }) {
			out = append(out, a)
		}
	}
	return out
}

// built is the space of some tests.
func built(t *testing.T, l ...api.Atom) []api.Attr {
	t.Helper()
	x, e := space.Build(l)
	if e != api.OK {
		t.Fatalf("Build(%+v): error %d", l, e)
	}
	return x
}

// only is the one attribute of a kind.
func only(t *testing.T, kind int, l ...api.Atom) api.Attr {
	t.Helper()
	x := built(t, l...)
	return x[slices.IndexFunc(x, func(y api.Attr) bool { return y.Kind == kind })]
}

// tell is all of an attribute as text, whether its empty lists are nil or not.
func tell(x ...api.Attr) string {
	return fmt.Sprintf("%+v", x)
}

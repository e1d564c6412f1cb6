package space_test

import (
	"fmt"
	"math/rand"
	"slices"
	"strings"
	"testing"

	"lychgate/api"
	"lychgate/auto"
	"lychgate/request"
	"lychgate/space"
)

// look holds what Build gives of some tests against the words, attribute by attribute.
func look(t *testing.T, r *rand.Rand, l []api.Atom) []api.Attr {
	t.Helper()
	x := built(t, l...)
	if !space.Right(x) {
		t.Fatalf("Build(%+v) is not right: %s", l, tell(x...))
	}
	order(t, x, l)
	for _, y := range x {
		parted(t, r, y, asking(l, y))
	}
	return x
}

// order: are the attributes those of a space of these tests, in its order?
func order(t *testing.T, x []api.Attr, l []api.Atom) {
	t.Helper()
	want := []string{"1", "2", "3", "4"}
	var headers []string
	for _, a := range l {
		if a.Kind == api.CondHeader || a.Kind == api.CondHas {
			headers = append(headers, "5"+a.Name)
		}
	}
	slices.Sort(headers)
	want = append(want, slices.Compact(headers)...)
	var got []string
	for _, y := range x {
		got = append(got, fmt.Sprint(y.Kind)+y.Name)
	}
	if !slices.Equal(got, want) {
		t.Fatalf("%+v: attributes %q", l, got)
	}
}

// parted: are members of one class just if they pass the same tests, and the classes numbered by their least members?
func parted(t *testing.T, r *rand.Rand, x api.Attr, tests []api.Atom) {
	t.Helper()
	class, look := map[string]int{}, map[int]string{}
	least := map[int]api.Sample{}
	for _, m := range members(r, tests, x) {
		p, c := passed(t, tests, x, m), wordsClass(x, m)
		if was, is := class[p]; is && was != c {
			t.Fatalf("%+v, %+v: class %d, others that pass the same are of %d", tests, m, c, was)
		}
		if was, is := look[c]; is && was != p {
			t.Fatalf("%+v, %+v: class %d passes %s, others of it %s", tests, m, c, p, was)
		}
		if _, is := class[p]; !is {
			if whole(x, m) && c != len(class) {
				t.Fatalf("%+v, %+v: class %d is met behind %d", tests, m, c, len(class))
			}
			least[c] = m
		}
		class[p], look[c] = c, p
	}
	for c := range x.Size {
		m, e := space.Least(x, c)
		if e != api.OK || wordsClass(x, m) != c {
			t.Fatalf("%+v: the least one of class %d: %+v, error %d", tests, c, m, e)
		}
		if n, is := least[c]; is && (wordsAhead(n, m) || whole(x, m) && m != n) {
			t.Fatalf("%+v: the least one of class %d: %+v, not %+v", tests, c, m, n)
		}
		if n, _ := space.Least(x, c-1); c > 0 && !wordsAhead(n, m) {
			t.Fatalf("%+v: class %d is numbered behind %d, %+v behind %+v", tests, c, c-1, m, n)
		}
		if p := passed(t, tests, x, m); look[c] != "" && look[c] != p {
			t.Fatalf("%+v: the least one of class %d: %+v passes %s, others %s", tests, c, m, p, look[c])
		}
	}
}

func TestBuildOfNoTest(t *testing.T) {
	x := built(t)
	want := []api.Attr{
		{Kind: api.AttrAddr, Size: 1, Rows: []api.Row{{}}},
		{Kind: api.AttrPort, Size: 1, Cuts: []api.Cut{{}}},
		{Kind: api.AttrMethod, Size: 1},
		{Kind: api.AttrPath, Size: 1, Auto: request.Paths()},
	}
	if tell(x...) != tell(want...) {
		t.Error(tell(x...))
	}
}

func TestBuildOfTheExamples(t *testing.T) {
	x := built(t, addrs(api.Span{Lo: 10 << 24, Hi: 11<<24 - 1}), ports(api.Span{Lo: 80, Hi: 80}), names("GET", "PUT"))
	rows := []api.Row{}
	for _, y := range []struct{ at, bits, label int }{{0, 5, 0}, {8, 7, 0}, {10, 8, 1}, {11, 8, 0}, {12, 6, 0}, {16, 4, 0}, {32, 3, 0}, {64, 2, 0}, {128, 1, 0}} {
		rows = append(rows, api.Row{Prefix: api.Prefix{Addr: y.at << 24, Bits: y.bits}, Label: y.label})
	}
	want := []api.Attr{
		{Kind: api.AttrAddr, Size: 2, Rows: rows},
		{Kind: api.AttrPort, Size: 2, Cuts: []api.Cut{{}, {From: 80, Class: 1}, {From: 81}}},
		{Kind: api.AttrMethod, Size: 2, Methods: []api.Method{{Name: "GET", Class: 1}, {Name: "PUT", Class: 1}}},
		{Kind: api.AttrPath, Size: 1, Auto: request.Paths()},
	}
	if tell(x...) != tell(want...) {
		t.Error(tell(x...))
	}
	r, e := space.Request(x, []int{1, 1, 0, 0})
	if s, _ := request.Encode(r); s != "A / 10.0.0.0:80\n\n" || e != api.OK {
		t.Errorf("%q, error %d", s, e)
	}
}

// labels are those of some texts.
func labels(a api.Auto, l ...string) string {
	out := ""
	for _, s := range l {
		out += fmt.Sprint(wordsLabel(a, s))
	}
	return out
}

func TestBuildOfHeaders(t *testing.T) {
	for _, c := range []struct {
		tests []api.Atom
		size  int
		want  string // labels of "", a, b, ab, " "
	}{
		{[]api.Atom{header("k", "a*")}, 2, "12120"},
		{[]api.Atom{header("k", "a*"), has("k")}, 3, "23230"},
		{[]api.Atom{has("k"), header("k", "a*")}, 3, "23230"},
		{[]api.Atom{has("k")}, 2, "22220"},
		{[]api.Atom{header("k", "")}, 2, "21110"},
		{[]api.Atom{header("k", ""), header("k", "b")}, 3, "21310"},
		{[]api.Atom{header("k", "**")}, 2, "22220"},
		{[]api.Atom{header("k", "**"), has("k")}, 2, "22220"},
		{[]api.Atom{header("k", " a")}, 1, "11110"}, // no value is so
		{[]api.Atom{header("k", " a"), has("k")}, 2, "22220"},
	} {
		x := only(t, api.AttrHeader, c.tests...)
		if got := labels(x.Auto, "", "a", "b", "ab", " "); x.Size != c.size || got != c.want || x.Rest != 0 || x.Name != "k" {
			t.Errorf("%+v: %s, %+v", c.tests, got, x)
		}
	}
}

func TestBuildOfPaths(t *testing.T) {
	for _, c := range []struct {
		tests []api.Atom
		size  int
		want  string // labels of /, /a, /b, /a/b, "", /a/
	}{
		{[]api.Atom{path("**")}, 1, "111100"},
		{[]api.Atom{path("/**")}, 1, "111100"},
		{[]api.Atom{path("/*")}, 2, "111200"},
		{[]api.Atom{path("/a/")}, 1, "111100"}, // no path is so
		{[]api.Atom{path("")}, 1, "111100"},
		{[]api.Atom{path("/")}, 2, "122200"},
		{[]api.Atom{path("/b"), path("/a")}, 3, "123100"},
		{[]api.Atom{path("/*"), path("/?*")}, 3, "122300"},
	} {
		x := only(t, api.AttrPath, c.tests...)
		if got := labels(x.Auto, "/", "/a", "/b", "/a/b", "", "/a/"); x.Size != c.size || got != c.want {
			t.Errorf("%+v: %s, %+v", c.tests, got, x)
		}
	}
}

func TestBuildOfMethods(t *testing.T) {
	var letters, more []string
	for k := range 26 {
		letters = append(letters, word(k))
	}
	more = append(more, letters...)
	more = append(more[:1:1], append([]string{"AA", "AB", "AD"}, letters[1:]...)...)
	for _, c := range []struct {
		tests []api.Atom
		want  string
		least string // of the rest
	}{
		{[]api.Atom{names("A")}, "[{A 0}] 1", "B"},
		{[]api.Atom{names("B")}, "[{B 1}] 0", "A"},
		{[]api.Atom{names("AA", "B")}, "[{B 1} {AA 1}] 0", "A"}, // the shorter one first
		{[]api.Atom{names("AA", "B"), names("AA")}, "[{B 1} {AA 2}] 0", "A"},
		{[]api.Atom{names("A", "C"), names("C")}, "[{A 0} {C 2}] 1", "B"},
		{[]api.Atom{names("A", "B"), names("B", "C"), names("B")}, "[{A 0} {B 1} {C 2}] 3", "D"},
		{[]api.Atom{names(letters...)}, "", "AA"},
		{[]api.Atom{names(more...)}, "", "AC"},
	} {
		x := only(t, api.AttrMethod, c.tests...)
		if got := fmt.Sprint(x.Methods, x.Rest); c.want != "" && got != c.want {
			t.Errorf("%+v: %s", c.tests, got)
		}
		if m, e := space.Least(x, x.Rest); m.Text != c.least || e != api.OK {
			t.Errorf("%+v: the rest's least one is %+v, error %d", c.tests, m, e)
		}
	}
}

// All ports, one by one; and at both ends of the numbers.
func TestBuildOfNumbers(t *testing.T) {
	r := rand.New(rand.NewSource(1))
	for range 12 {
		var l []api.Atom
		for _, a := range randomTests(r, 40) {
			if a.Kind == api.CondPort {
				l = append(l, a)
			}
		}
		x := only(t, api.AttrPort, l...)
		class := map[string]int{}
		for n := range 65536 {
			look := ""
			for _, a := range l {
				look += fmt.Sprint(slices.ContainsFunc(a.Spans, func(s api.Span) bool { return s.Lo <= n && n <= s.Hi }))[:1]
			}
			if _, is := class[look]; !is {
				class[look] = len(class)
			}
			if c := wordsClass(x, api.Sample{Number: n}); c != class[look] {
				t.Fatalf("%+v: port %d: class %d, not %d", l, n, c, class[look])
			}
		}
		if x.Size != len(class) {
			t.Fatalf("%+v: %d classes, not %d", l, x.Size, len(class))
		}
	}
	for _, c := range []struct {
		tests []api.Atom
		want  string
	}{
		{[]api.Atom{ports(api.Span{Lo: 0, Hi: 65535})}, "[{0 0}]"},
		{[]api.Atom{ports(api.Span{Lo: 65535, Hi: 65535})}, "[{0 0} {65535 1}]"},
		{[]api.Atom{ports(api.Span{Lo: 0, Hi: 65534})}, "[{0 0} {65535 1}]"},
		{[]api.Atom{ports(api.Span{Lo: 0, Hi: 0}, api.Span{Lo: 2, Hi: 9}), ports(api.Span{Lo: 2, Hi: 5})}, "[{0 0} {1 1} {2 2} {6 0} {10 1}]"},
		{[]api.Atom{ports(api.Span{Lo: 3, Hi: 5}), ports(api.Span{Lo: 6, Hi: 8})}, "[{0 0} {3 1} {6 2} {9 0}]"},
	} {
		if x := only(t, api.AttrPort, c.tests...); fmt.Sprint(x.Cuts) != c.want {
			t.Errorf("%+v: %+v", c.tests, x.Cuts)
		}
	}
	x := only(t, api.AttrAddr, addrs(api.Span{Lo: 0, Hi: api.MaxWord}))
	if tell(x) != tell(built(t)[0]) {
		t.Error(tell(x))
	}
	x = only(t, api.AttrAddr, addrs(api.Span{Lo: 1 << 31, Hi: api.MaxWord}), addrs(api.Span{Lo: 0, Hi: 1<<31 - 1}))
	if fmt.Sprint(x.Rows) != "[{{0 1} 0} {{2147483648 1} 1}]" || x.Size != 2 {
		t.Error(tell(x))
	}
}

func TestBuildByChance(t *testing.T) {
	r := rand.New(rand.NewSource(2))
	sizes := map[int]int{}
	for i := range 80 {
		for _, y := range look(t, r, randomTests(r, []int{3, 6, 12, 24}[i%4])) {
			sizes[y.Kind] = max(sizes[y.Kind], y.Size)
		}
	}
	for kind := api.AttrAddr; kind <= api.AttrHeader; kind++ {
		if sizes[kind] < 4 {
			t.Errorf("kind %d: at most %d classes", kind, sizes[kind])
		}
	}
}

// refused: is that error, and nothing beside it, what Build answers?
func refused(t *testing.T, want api.Errno, l ...api.Atom) {
	t.Helper()
	if x, e := space.Build(l); len(x) != 0 || e != want {
		t.Errorf("Build of %d tests: %d attributes, error %d, not %d", len(l), len(x), e, want)
	}
}

// deep is a pattern whose automaton has too many states, if its number is 9.
func deep(n int) string { return "**a" + strings.Repeat("?", n) }

func TestWrongTests(t *testing.T) {
	good := []api.Atom{addrs(api.Span{Lo: 1, Hi: 2}), ports(api.Span{Lo: 1, Hi: 2}), names("GET"), path("/a"), header("k", "a"), has("k")}
	look(t, rand.New(rand.NewSource(3)), good)
	for i, a := range good {
		refused(t, api.ErrArg, append(slices.Clip(good), a)...)
		refused(t, api.ErrArg, a, a)
		for kind := -1; kind < 15; kind++ {
			b := a
			b.Kind = kind
			numbers := len(a.Spans) > 0 && (kind == api.CondAddr || kind == api.CondPort)
			if kind == a.Kind || numbers || kind == api.CondHeader && a.Kind == api.CondHas {
				continue // these are right, too
			}
			l := slices.Clone(good)
			l[i] = b
			refused(t, api.ErrArg, l...)
		}
	}
	for _, a := range []api.Atom{
		{},
		{Kind: api.CondAddr},
		addrs(api.Span{Lo: 5, Hi: 4}),
		addrs(api.Span{Lo: -1, Hi: 4}),
		addrs(api.Span{Lo: 5, Hi: 1 << 32}),
		addrs(api.Span{Lo: 5, Hi: 6}, api.Span{Lo: 7, Hi: 8}),
		{Kind: api.CondAddr, Spans: []api.Span{{Lo: 1, Hi: 2}}, Name: "k"},
		ports(api.Span{Lo: 5, Hi: 65536}),
		ports(),
		names(),
		names("PUT", "GET"),
		names("GET", "GET"),
		names("get"),
		names(""),
		names("ABCDEFGHIJKLMNOPQ"),
		{Kind: api.CondPath, Pieces: []api.Piece{{Kind: 6}}},
		{Kind: api.CondPath, Pieces: []api.Piece{{Kind: api.PieceStar}, {Kind: api.PieceDeep}}},
		{Kind: api.CondPath, Name: "k"},
		header("K", "a"),
		header("", "a"),
		has(""),
		has(strings.Repeat("k", 33)),
		has("k:"),
	} {
		refused(t, api.ErrArg, a)
		refused(t, api.ErrArg, append(slices.Clip(good), a)...)
		refused(t, api.ErrArg, a, path(deep(9)))
		refused(t, api.ErrArg, path(deep(9)), a)
	}
	refused(t, api.ErrArg, path(deep(9)), has("a"), has("a"))
}

func TestHowManyTests(t *testing.T) {
	var l []api.Atom
	for i := range 129 {
		l = append(l, ports(api.Span{Lo: 2 * i, Hi: 2 * i}))
	}
	if x := built(t, l[:128]...); x[1].Size != 129 {
		t.Error(x[1])
	}
	refused(t, api.ErrArg, l...)
	refused(t, api.ErrArg, append(l, path(deep(9)))...)
	var heads []api.Atom
	for i := range 9 {
		heads = append(heads, has(string("hgfedcbai"[i])), header(string("hgfedcbai"[i]), "x"))
	}
	x := built(t, heads[:16]...)
	if order(t, x, heads[:16]); x[11].Size != 3 {
		t.Error(tell(x...))
	}
	refused(t, api.ErrArg, heads...)
	refused(t, api.ErrArg, heads[:17]...)
	refused(t, api.ErrArg, append(heads, path(deep(9)))...)
}

// steps are 128 sets, by which numbers have 256 classes: each begins one number behind the one ahead, and ends likewise.
func steps(by int) [][]api.Span {
	var out [][]api.Span
	for i := range 128 {
		out = append(out, []api.Span{{Lo: by * (i + 1), Hi: by * (1000 + i)}})
	}
	return out
}

func TestHowManyClassesOfNumbers(t *testing.T) {
	for _, c := range []struct{ kind, attr, by int }{{api.CondAddr, 0, 1 << 20}, {api.CondPort, 1, 5}} {
		var l []api.Atom
		for _, spans := range steps(c.by) {
			l = append(l, api.Atom{Kind: c.kind, Spans: spans})
		}
		if x := built(t, l...); x[c.attr].Size != 256 || !space.Right(x) {
			t.Errorf("%+v", x[c.attr].Size)
		}
		for _, i := range []int{0, 2} { // a number that is in these two sets alone
			l[i].Spans = append(l[i].Spans, api.Span{Lo: c.by * 4000, Hi: c.by * 4000})
		}
		refused(t, api.ErrNodeLimit, l...)
		l[1].Spans = append(l[1].Spans, api.Span{Lo: c.by * 4000, Hi: c.by * 4000}) // in the first three: these there are already
		if x := built(t, l...); x[c.attr].Size != 256 {
			t.Errorf("%+v", x[c.attr].Size)
		}
	}
}

func TestHowManyClassesOfMethods(t *testing.T) {
	l := make([]api.Atom, 128)
	for i := range l {
		l[i] = names(fmt.Sprint("M", word(i)))
	}
	for i := range 127 { // the two sets side by side
		l[i].Names = append(l[i].Names, "Q"+word(i))
		l[i+1].Names = append(l[i+1].Names, "Q"+word(i))
	}
	for i := range l {
		slices.Sort(l[i].Names)
	}
	x := built(t, l...)
	if x[2].Size != 256 || !space.Right(x) {
		t.Error(x[2].Size)
	}
	for _, i := range []int{0, 2} {
		l[i].Names = append(l[i].Names, "Z")
	}
	refused(t, api.ErrNodeLimit, l...)
	l[1].Names = append(l[1].Names, "Z")
	refused(t, api.ErrNodeLimit, l...)
}

// Layer 6 tells it of a pattern alone, and of patterns that it joins.
func TestHowManyStates(t *testing.T) {
	for _, kind := range []func(s string) api.Atom{path, func(s string) api.Atom { return header("k", s) }} {
		built(t, kind(deep(4)))
		refused(t, api.ErrNodeLimit, kind(deep(9)))
		refused(t, api.ErrNodeLimit, kind(deep(9)), ports(api.Span{}))
		refused(t, api.ErrNodeLimit, ports(api.Span{}), kind("a"), kind(deep(9)))
		refused(t, api.ErrNodeLimit, kind(deep(9)), kind("a"))
		refused(t, api.ErrNodeLimit, kind(deep(7))) // it has an automaton, but none that knows members
		// Each has room, both have none.
		built(t, kind("**a???"))
		built(t, kind("**b????"))
		refused(t, api.ErrNodeLimit, kind("**a???"), kind("**b????"))
		refused(t, api.ErrNodeLimit, kind("**b????"), kind("x"), kind("**a???"))
	}
}

// limits tells whether layer 6 has no room for the patterns of tests of one attribute, by the calls that the chapter names.
func limits(members api.Auto, l []api.Atom) bool {
	by := members
	for _, a := range l {
		p, e := auto.Of(a.Pieces)
		if e != api.OK {
			return true
		}
		if by, _, e = auto.Join(by, p); e != api.OK {
			return true
		}
	}
	return false
}

// Texts that are no members are told apart, too: though no member passes the second test, both have no room.
func TestTextsThatAreNoMembers(t *testing.T) {
	for _, c := range []struct {
		members api.Auto
		tests   []api.Atom
	}{
		{request.Values(), []api.Atom{header("k", "**a?????"), header("k", " **b??????")}},
		{request.Paths(), []api.Atom{path("**a????"), path("x**b??????")}},
	} {
		for i := range c.tests {
			if x := built(t, c.tests[i]); x[len(x)-1].Size != 2-i {
				t.Error(x[len(x)-1].Size)
			}
		}
		if !limits(c.members, c.tests) {
			t.Error("there is room")
		}
		refused(t, api.ErrNodeLimit, c.tests...)
		refused(t, api.ErrNodeLimit, c.tests[1], c.tests[0])
	}
}

func TestLimitsByChance(t *testing.T) {
	r := rand.New(rand.NewSource(4))
	full := 0
	for i := range 150 {
		kind, members := path, request.Paths()
		if i%2 == 0 {
			kind, members = func(s string) api.Atom { return header("k", s) }, request.Values()
		}
		var l []api.Atom
		for _, n := range r.Perm(6)[:1+r.Intn(4)] {
			s := pick(r, "**a", "**b", "**ab", "?*a", " **a", "[a-c]") + strings.Repeat("?", n) + strings.Repeat("x", r.Intn(3))
			l = append(l, kind(s))
		}
		want := api.OK
		if limits(members, l) {
			want = api.ErrNodeLimit
			full++
		}
		if _, e := space.Build(l); e != want {
			t.Fatalf("%+v: error %d, not %d", l, e, want)
		}
	}
	if full < 10 || full > 140 {
		t.Errorf("%d had no room", full)
	}
}

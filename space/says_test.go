package space_test

import (
	"fmt"
	"math/rand"
	"slices"
	"strings"
	"testing"

	"lychgate/api"
	"lychgate/atom"
	"lychgate/auto"
	"lychgate/request"
	"lychgate/space"
)

// asked is a request's text, without the empty line, in its one form.
func asked(t *testing.T, s string) api.Request {
	t.Helper()
	r, e := request.Decode(s + "\n\n")
	if e != api.OK {
		t.Fatalf("%q: error %d", s, e)
	}
	return r
}

// randomRequest is a right one, of members that tests by chance speak of.
func randomRequest(r *rand.Rand, x []api.Attr) api.Request {
	var q api.Request
	numbers := []int{0, 1, 2, 3, 5, 6, 79, 80, 90, 91, r.Intn(100), 65534, 65535, r.Intn(65536)}
	for _, y := range x {
		m := map[int]api.Sample{
			api.AttrAddr:   {Number: pick(r, append(numbers, 1<<31, 1<<32-1, r.Intn(1<<32))...)},
			api.AttrPort:   {Number: pick(r, numbers...)},
			api.AttrMethod: {Text: pick(r, word(r.Intn(3)), word(r.Intn(30)), word(r.Intn(800)), "GET", "PUT", "ABCDEFGHIJKLMNOP")},
			api.AttrPath:   {Text: pick(r, "/", randomPath(r), randomPath(r))},
			api.AttrHeader: pick(r, api.Sample{None: true}, api.Sample{Text: randomValue(r)}, api.Sample{Text: randomValue(r)}),
		}[y.Kind]
		q = with(q, y, m)
	}
	if r.Intn(2) == 0 {
		q.Headers = append(q.Headers, api.Field{Name: "zzz", Value: "a"})
	}
	return q
}

func TestClasses(t *testing.T) {
	x := good(t)
	for s, want := range map[string]string{
		"X / 0.0.0.0:0":                      "[0 0 1 0 0 0]",
		"A / 127.255.255.255:79":             "[0 0 0 0 0 0]",
		"Z /b 128.0.0.0:80":                  "[1 1 2 1 0 0]",
		"GET /a/b/c 128.0.0.7:84":            "[1 1 3 2 0 0]",
		"GETS /a 128.0.0.8:85":               "[0 2 1 0 0 0]",
		"ZA /bcd 192.0.0.0:89":               "[2 2 1 1 0 0]",
		"B /b/c 255.255.255.255:90\nK: \nM:": "[2 3 1 0 1 1]",
		"B / 0.0.0.0:91\nk:ba\nm:b":          "[0 0 1 0 1 2]",
		"B / 0.0.0.0:65535\nk:a\nm:bb\nn:b":  "[0 0 1 0 2 0]",
		"B / 0.0.0.0:65535\nka:a\nmm:b":      "[0 0 1 0 0 0]",
	} {
		if l, e := space.Classes(x, asked(t, s)); fmt.Sprint(l) != want || e != api.OK {
			t.Errorf("%q: %v, error %d", s, l, e)
		}
	}
}

func TestClassesByChance(t *testing.T) {
	r := rand.New(rand.NewSource(6))
	for range 60 {
		x, e := space.Build(randomTests(r, 10))
		if e != api.OK {
			continue
		}
		for range 5 {
			q := randomRequest(r, x)
			var want []int
			for _, y := range x {
				m := api.Sample{Number: q.Addr}
				switch y.Kind {
				case api.AttrPort:
					m.Number = q.Port
				case api.AttrMethod:
					m = api.Sample{Text: q.Method}
				case api.AttrPath:
					m = api.Sample{Text: q.Path}
				case api.AttrHeader:
					m = api.Sample{None: true}
					for _, f := range q.Headers {
						if f.Name == y.Name {
							m = api.Sample{Text: f.Value}
						}
					}
				}
				want = append(want, wordsClass(y, m))
			}
			if l, e := space.Classes(x, q); !slices.Equal(l, want) || e != api.OK {
				t.Fatalf("%s, %+v: %v, error %d, not %v", tell(x...), q, l, e, want)
			}
		}
	}
}

func TestClassesOfNoRequest(t *testing.T) {
	x := good(t)
	for _, change := range []func(q *api.Request){
		func(q *api.Request) { *q = api.Request{} },
		func(q *api.Request) { q.Method = "" },
		func(q *api.Request) { q.Method = "get" },
		func(q *api.Request) { q.Method = "ABCDEFGHIJKLMNOPQ" },
		func(q *api.Request) { q.Path = "" },
		func(q *api.Request) { q.Path = "/a/" },
		func(q *api.Request) { q.Path = "/%41" },
		func(q *api.Request) { q.Addr = -1 },
		func(q *api.Request) { q.Addr = 1 << 32 },
		func(q *api.Request) { q.Port = -1 },
		func(q *api.Request) { q.Port = 65536 },
		func(q *api.Request) { q.Port = 1 << 40 },
		func(q *api.Request) { q.Port = -1 << 63 },
		func(q *api.Request) { q.Addr = 1<<63 - 1 },
		func(q *api.Request) { q.Headers[0].Name = "K" },
		func(q *api.Request) { q.Headers[1].Name = "k" },
		func(q *api.Request) { q.Headers[1].Value = " b" },
		func(q *api.Request) { q.Headers[1].Value = "\n" },
		func(q *api.Request) { q.Headers = slices.Repeat(q.Headers, 40) },
	} {
		q := api.Request{Method: "GET", Path: "/a", Addr: 1, Port: 80, Headers: []api.Field{{Name: "k", Value: "b"}, {Name: "m"}}}
		if _, e := space.Classes(x, q); e != api.OK {
			t.Fatal(e)
		}
		change(&q)
		if l, e := space.Classes(x, q); len(l) != 0 || e != api.ErrArg {
			t.Errorf("%+v: %v, error %d", q, l, e)
		}
	}
}

// Whatever the attributes and the test are otherwise.
func TestOf(t *testing.T) {
	var x []api.Attr
	for _, kind := range []int{0, 5, 4, 3, 2, 1, 1, 2, 3, 4, 5, 5, 5, 6, -1} {
		x = append(x, api.Attr{Kind: kind, Name: fmt.Sprint(len(x) % 10), Size: -3})
	}
	x[1].Name = ""
	for i := -2; i < 20; i++ {
		for _, name := range []string{"", "0", "1", "2", "5", "zz"} {
			want := -1
			switch i {
			case api.CondAddr:
				want = 5
			case api.CondPort:
				want = 4
			case api.CondMethod:
				want = 3
			case api.CondPath:
				want = 2
			case api.CondHeader, api.CondHas:
				want = map[string]int{"": 1, "0": 10, "1": 11, "2": 12, "5": -1, "zz": -1}[name]
			}
			if at := space.Of(x, api.Atom{Kind: i, Name: name}); at != want {
				t.Errorf("kind %d, name %q: %d, not %d", i, name, at, want)
			}
			if at := space.Of(nil, api.Atom{Kind: i, Name: name}); at != -1 {
				t.Errorf("kind %d, name %q, of nothing: %d", i, name, at)
			}
		}
	}
	l := good(t)
	for i, a := range []api.Atom{addrs(api.Span{}), ports(api.Span{}), names("A"), path("x"), header("k", ""), header("m", "")} {
		if at := space.Of(l, a); at != i {
			t.Errorf("%+v: %d", a, at)
		}
	}
	if at := space.Of(l, has("l")); at != -1 {
		t.Errorf("a header that is not there: %d", at)
	}
	if at := space.Of(l, has("m")); at != 5 {
		t.Errorf("a header that is there: %d", at)
	}
}

// wanted: are these what In answers?
func wanted(t *testing.T, x api.Attr, a api.Atom, want string, e api.Errno) {
	t.Helper()
	in, f := space.In(x, a)
	got := ""
	for _, is := range in {
		got += fmt.Sprint(is)[:1]
	}
	if got != want || e != f {
		t.Errorf("%+v: %s, error %d, not %s, %d", a, got, f, want, e)
	}
}

func TestIn(t *testing.T) {
	x := good(t)
	for _, c := range []struct {
		at   int
		a    api.Atom
		want string
	}{
		{0, addrs(api.Span{Lo: 1 << 31, Hi: 1<<31 + 7}), "ftf"},
		{0, addrs(api.Span{Lo: 3 << 30, Hi: api.MaxWord}), "fft"},
		{0, addrs(api.Span{Lo: 0, Hi: 1<<31 - 1}, api.Span{Lo: 1<<31 + 8, Hi: 3<<30 - 1}), "tff"},
		{0, addrs(api.Span{Lo: 0, Hi: api.MaxWord}), "ttt"},
		{0, addrs(api.Span{Lo: 0, Hi: 0}), ""},
		{0, addrs(api.Span{Lo: 3 << 30, Hi: api.MaxWord - 1}), ""},
		{0, addrs(api.Span{Lo: 1<<31 - 1, Hi: 1<<31 + 7}), ""},
		{0, addrs(api.Span{Lo: 0, Hi: 1<<31 - 1}), ""},
		{1, ports(api.Span{Lo: 80, Hi: 84}), "ftff"},
		{1, ports(api.Span{Lo: 80, Hi: 90}), "fttt"},
		{1, ports(api.Span{Lo: 0, Hi: 79}, api.Span{Lo: 91, Hi: 65535}), "tfff"},
		{1, ports(api.Span{Lo: 0, Hi: 65535}), "tttt"},
		{1, ports(api.Span{Lo: 0, Hi: 79}), ""},
		{1, ports(api.Span{Lo: 91, Hi: 65535}), ""},
		{1, ports(api.Span{Lo: 80, Hi: 85}), ""},
		{2, names("A"), "tfff"},
		{2, names("GET", "Z"), "fftt"},
		{2, names("A", "GET", "Z"), "tftt"},
		{2, names("A", "B"), ""},
		{2, names("ZZZZZZZZZZZZZZZZ"), ""},
		{3, path("/a/**"), "fft"},
		{3, path("/[a]/**"), "fft"},
		{3, path("/b*"), "ftf"},
		{3, path("**"), "ttt"},
		{3, path("/**"), "ttt"},
		{3, path("x"), "fff"},
		{3, path("/a/"), "fff"},
		{3, path("/"), ""},
		{3, path("/a/b"), ""},
		{3, path("/*"), ""},
		{4, has("k"), "ftt"},
		{4, header("k", "**"), "ftt"},
		{4, header("k", "a*"), "fft"},
		{4, header("k", " a"), "fff"},
		{4, header("k", "a"), ""},
		{4, header("k", "*"), ""},
		{5, has("m"), ""}, // the class of NONE has values, too
		{5, header("m", "**"), ""},
		{5, header("m", "b"), "fft"},
		{5, header("m", ""), "ftf"},
		{5, header("m", "c"), ""},
	} {
		e := api.OK
		if c.want == "" {
			e = api.ErrArg
		}
		wanted(t, x[c.at], c.a, c.want, e)
		for i := range x {
			if i != c.at {
				wanted(t, x[i], c.a, "", api.ErrArg)
			}
		}
	}
	// A method that is told apart from none, but listed with another class.
	y := only(t, api.AttrMethod, names("A", "B"))
	wanted(t, y, names("A"), "", api.ErrArg)
	wanted(t, y, names("A", "B"), "tf", api.OK)
	wanted(t, y, names("C"), "", api.ErrArg)
	y = only(t, api.AttrMethod)
	wanted(t, y, names("A"), "", api.ErrArg)
}

func TestInOfWrongTests(t *testing.T) {
	x := good(t)
	wanted(t, x[0], addrs(), "", api.ErrArg)
	wanted(t, x[0], addrs(api.Span{Lo: -1, Hi: api.MaxWord}), "", api.ErrArg)
	wanted(t, x[0], addrs(api.Span{Lo: 0, Hi: 1 << 32}), "", api.ErrArg)
	wanted(t, x[1], ports(api.Span{Lo: 0, Hi: 65536}), "", api.ErrArg)
	wanted(t, x[1], ports(api.Span{Lo: 90, Hi: 80}), "", api.ErrArg)
	wanted(t, x[2], names("Z", "GET"), "", api.ErrArg)
	wanted(t, x[2], names(), "", api.ErrArg)
	wanted(t, x[3], api.Atom{Kind: api.CondPath, Name: "k", Pieces: pattern("**")}, "", api.ErrArg)
	wanted(t, x[3], api.Atom{Kind: api.CondPath, Pieces: []api.Piece{{Kind: 9}}}, "", api.ErrArg)
	wanted(t, x[4], api.Atom{Kind: api.CondHas, Name: "k", Pieces: pattern("**")}, "", api.ErrArg)
	wanted(t, x[4], api.Atom{Kind: api.CondTrue}, "", api.ErrArg)
	wanted(t, x[4], api.Atom{}, "", api.ErrArg)
	wanted(t, api.Attr{}, api.Atom{}, "", api.ErrArg)
}

// A pattern for which layer 6 has no room is told so, though it would part a class; but behind what is not right, or not asked.
func TestInWithoutRoom(t *testing.T) {
	x := good(t)
	wanted(t, x[3], path(deep(8)), "", api.ErrNodeLimit)
	wanted(t, x[4], header("k", deep(8)), "", api.ErrNodeLimit)
	wanted(t, x[3], path("x"+deep(8)), "", api.ErrNodeLimit) // no path is so
	wanted(t, x[3], header("k", deep(8)), "", api.ErrArg)
	wanted(t, x[5], header("k", deep(8)), "", api.ErrArg)
	wanted(t, x[4], path(deep(8)), "", api.ErrArg)
	wanted(t, x[0], path(deep(8)), "", api.ErrArg)
	y := clone(x[3])
	y.Size++
	wanted(t, y, path(deep(8)), "", api.ErrArg)
	wanted(t, x[3], api.Atom{Kind: api.CondPath, Name: "k", Pieces: pattern(deep(8))}, "", api.ErrArg)
	wanted(t, x[3], path(deep(7)), "", api.ErrArg) // for this there is room; it parts classes
}

// Where the pattern has room, but its join with the attribute's automaton has none, In says what there is to say.
func TestInWithoutRoomForAJoin(t *testing.T) {
	for _, c := range []struct {
		x    api.Attr
		a    api.Atom
		want string
	}{
		{only(t, api.AttrHeader, header("k", "**a?????")), header("k", " **b??????c"), "ff"},
		{only(t, api.AttrPath, path("**a????")), path("x**b??????c"), "ff"},
		{only(t, api.AttrHeader, header("k", "**a?????")), header("k", "**b??????"), ""},
		{only(t, api.AttrPath, path("**a????")), path("**b??????"), ""},
	} {
		p, e := auto.Of(c.a.Pieces)
		if e != api.OK {
			t.Fatal(e)
		}
		if _, _, e := auto.Join(c.x.Auto, p); e != api.ErrNodeLimit {
			t.Fatalf("%+v: a join has room: error %d", c.a, e)
		}
		want := api.OK
		if c.want == "" {
			want = api.ErrArg
		}
		wanted(t, c.x, c.a, c.want, want)
	}
}

// A test parts no class just if the classes that come of it beside the others are as many.
func TestInByChance(t *testing.T) {
	r := rand.New(rand.NewSource(7))
	whole, parts := map[int]int{}, map[int]int{}
	for range 700 {
		l := randomTests(r, 9)
		x, e := space.Build(l)
		a := randomTest(r)
		at := space.Of(x, a)
		if e != api.OK || at < 0 {
			continue
		}
		if len(l) > 0 && r.Intn(3) == 0 {
			a = pick(r, l...)
			at = space.Of(x, a)
		}
		more := x
		if !slices.ContainsFunc(l, func(b api.Atom) bool { return atom.Same(a, b) }) {
			if more, e = space.Build(append(slices.Clip(l), a)); e != api.OK {
				continue
			}
		}
		in, e := space.In(x[at], a)
		if more[at].Size != x[at].Size {
			parts[a.Kind]++
			if len(in) != 0 || e != api.ErrArg {
				t.Fatalf("%s, %+v: %v, error %d", tell(x[at]), a, in, e)
			}
			continue
		}
		whole[a.Kind]++
		if len(in) != x[at].Size || e != api.OK {
			t.Fatalf("%s, %+v: %v, error %d", tell(x[at]), a, in, e)
		}
		for c, is := range in {
			m, _ := space.Least(x[at], c)
			if (passed(t, []api.Atom{a}, x[at], m) == "1") != is {
				t.Fatalf("%s, %+v: %v, but %+v", tell(x[at]), a, in, m)
			}
		}
	}
	for kind := api.CondAddr; kind <= api.CondHas; kind++ {
		if whole[kind] < 15 || parts[kind] < 4 {
			t.Errorf("kind %d: %d and %d", kind, whole[kind], parts[kind])
		}
	}
}

func TestLeast(t *testing.T) {
	x := good(t)
	for i, want := range [][]api.Sample{
		{{Number: 0}, {Number: 1 << 31}, {Number: 3 << 30}},
		{{Number: 0}, {Number: 80}, {Number: 85}, {Number: 90}},
		{{Text: "A"}, {Text: "B"}, {Text: "Z"}, {Text: "GET"}},
		{{Text: "/"}, {Text: "/b"}, {Text: "/a/!"}},
		{{None: true}, {}, {Text: "a"}},
		{{None: true}, {}, {Text: "b"}},
	} {
		for c, m := range want {
			if got, e := space.Least(x[i], c); got != m || e != api.OK {
				t.Errorf("attribute %d, class %d: %+v, error %d", i, c, got, e)
			}
		}
		for _, c := range []int{-1, len(want), len(want) + 1, -1 << 63, 1<<63 - 1} {
			if got, e := space.Least(x[i], c); got != (api.Sample{}) || e != api.ErrArg {
				t.Errorf("attribute %d, class %d: %+v, error %d", i, c, got, e)
			}
		}
	}
}

func TestRequest(t *testing.T) {
	x := good(t)
	for want, classes := range map[string][]int{
		"A / 0.0.0.0:0\n\n":                 {0, 0, 0, 0, 0, 0},
		"B /b 128.0.0.0:80\nk:\nm:\n\n":     {1, 1, 1, 1, 1, 1},
		"Z /a/! 192.0.0.0:85\nk:a\nm:b\n\n": {2, 2, 2, 2, 2, 2},
		"GET / 0.0.0.0:90\nm:b\n\n":         {0, 3, 3, 0, 0, 2},
		"GET /b 128.0.0.0:85\nk:\n\n":       {1, 2, 3, 1, 1, 0},
	} {
		r, e := space.Request(x, classes)
		if s, _ := request.Encode(r); s != want || e != api.OK {
			t.Errorf("%v: %q, error %d", classes, s, e)
		}
	}
	for _, classes := range [][]int{nil, {}, {0, 0, 0, 0, 0}, {0, 0, 0, 0, 0, 0, 0}, {3, 0, 0, 0, 0, 0}, {0, 4, 0, 0, 0, 0}, {0, 0, 4, 0, 0, 0}, {0, 0, 0, 3, 0, 0}, {0, 0, 0, 0, 3, 0}, {0, 0, 0, 0, 0, 3}, {-1, 0, 0, 0, 0, 0}, {0, 0, 0, 0, 0, -1}, {0, 0, 0, -1 << 63, 0, 0}, {0, 0, 0, 0, 1<<63 - 1, 0}} {
		r, e := space.Request(x, classes)
		if r.Method != "" || r.Path != "" || r.Addr != 0 || r.Port != 0 || len(r.Headers) != 0 || e != api.ErrArg {
			t.Errorf("%v: %+v, error %d", classes, r, e)
		}
	}
}

func TestLongTexts(t *testing.T) {
	x := built(t, path("**/ab"), header("k", "**/"), has("k"))
	long := strings.Repeat("/ab", 100000)
	for s, want := range map[string]int{long: 1, long + "/a": 0} {
		q := api.Request{Method: "A", Path: s, Headers: []api.Field{{Name: "k", Value: s}}}
		if l, e := space.Classes(x, q); e != api.OK || l[3] != want || l[4] != 1 {
			t.Errorf("%v, error %d", l, e)
		}
	}
	q := api.Request{Method: "A", Path: "/", Headers: []api.Field{{Name: "k", Value: long + "/"}}}
	if l, e := space.Classes(x, q); e != api.OK || l[4] != 2 {
		t.Errorf("%v, error %d", l, e)
	}
}

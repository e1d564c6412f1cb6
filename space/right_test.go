package space_test

import (
	"math/rand"
	"slices"
	"strings"
	"testing"

	"lychgate/api"
	"lychgate/auto"
	"lychgate/request"
	"lychgate/space"
)

// wordsRight: is an attribute right, by the words?
func wordsRight(x api.Attr) bool {
	if x.Size < 1 || x.Size > 256 {
		return false
	}
	own := api.Attr{Kind: x.Kind, Size: x.Size}
	good := false
	switch x.Kind {
	case api.AttrAddr:
		own.Rows = x.Rows
		good = wordsRows(x)
	case api.AttrPort:
		own.Cuts = x.Cuts
		good = wordsCuts(x)
	case api.AttrMethod:
		own.Methods, own.Rest = x.Methods, x.Rest
		good = wordsMethods(x)
	case api.AttrPath:
		own.Auto = x.Auto
		good = wordsTexts(x, request.Paths(), nil)
	case api.AttrHeader:
		own.Auto, own.Name = x.Auto, x.Name
		name := x.Name != "" && len(x.Name) <= 32 && strings.Trim(x.Name, "abcdefghijklmnopqrstuvwxyz0123456789-") == ""
		good = name && wordsTexts(x, request.Values(), []api.Sample{{None: true}})
	}
	return good && tell(x) == tell(own)
}

// wordsNumbered: do the classes of members that rise begin with 0, and does each new one follow those that were met?
func wordsNumbered(l []int, size int) bool {
	var met []int
	for _, c := range l {
		if !slices.Contains(met, c) {
			if c != len(met) {
				return false
			}
			met = append(met, c)
		}
	}
	return len(met) == size
}

func wordsRows(x api.Attr) bool {
	next := 0
	var l []int
	for i, row := range x.Rows {
		p := row.Prefix
		if p.Bits < 0 || p.Bits > 32 || p.Addr != next || p.Addr%(1<<(32-p.Bits)) != 0 {
			return false
		}
		if i > 0 {
			q := x.Rows[i-1].Prefix
			if q.Bits == p.Bits && q.Addr^p.Addr == 1<<(32-p.Bits) && x.Rows[i-1].Label == row.Label {
				return false
			}
		}
		next = p.Addr + 1<<(32-p.Bits)
		l = append(l, row.Label)
	}
	return next == 1<<32 && wordsNumbered(l, x.Size)
}

func wordsCuts(x api.Attr) bool {
	var l []int
	for i, cut := range x.Cuts {
		if i == 0 && cut.From != 0 || cut.From > 65535 || i > 0 && (cut.From <= x.Cuts[i-1].From || cut.Class == x.Cuts[i-1].Class) {
			return false
		}
		l = append(l, cut.Class)
	}
	return wordsNumbered(l, x.Size)
}

func wordsMethods(x api.Attr) bool {
	var l []api.Sample
	for k := range len(x.Methods) + 1 { // one of these is not listed
		l = append(l, api.Sample{Text: word(k)})
	}
	for i, m := range x.Methods {
		if m.Class == x.Rest || m.Name == "" || len(m.Name) > 16 || strings.Trim(m.Name, "ABCDEFGHIJKLMNOPQRSTUVWXYZ") != "" {
			return false
		}
		if i > 0 && !wordsAhead(api.Sample{Text: x.Methods[i-1].Name}, api.Sample{Text: m.Name}) {
			return false
		}
		l = append(l, api.Sample{Text: m.Name})
	}
	return wordsNumbered(risingClasses(x, l), x.Size)
}

// risingClasses are the classes of some members, as these rise.
func risingClasses(x api.Attr, l []api.Sample) []int {
	slices.SortFunc(l, wordsCompare)
	var out []int
	for _, m := range l {
		out = append(out, wordsClass(x, m))
	}
	return out
}

// wordsTexts: is an automaton right, has it a class of each member, and of nothing else, and are the classes numbered as they should?
func wordsTexts(x api.Attr, members api.Auto, l []api.Sample) bool {
	if !auto.Right(x.Auto) {
		return false
	}
	_, pairs, e := auto.Join(x.Auto, members)
	if e != api.OK {
		return false // two that have the same members have no more states than one
	}
	for _, two := range pairs {
		if (two[0] > 0) != (two[1] > 0) {
			return false
		}
	}
	for label := 1; label <= api.MaxLabel; label++ {
		if !slices.Contains(x.Auto.Out, label) {
			continue
		}
		s, _, _ := auto.Shortest(x.Auto, label)
		l = append(l, api.Sample{Text: s})
	}
	return wordsNumbered(risingClasses(x, l), x.Size)
}

func clone(x api.Attr) api.Attr {
	x.Rows, x.Cuts, x.Methods = slices.Clone(x.Rows), slices.Clone(x.Cuts), slices.Clone(x.Methods)
	x.Auto.Next, x.Auto.Out = slices.Clone(x.Auto.Next), slices.Clone(x.Auto.Out)
	return x
}

func cloneAll(l []api.Attr) []api.Attr {
	out := slices.Clone(l)
	for i := range out {
		out[i] = clone(out[i])
	}
	return out
}

// good are the attributes of a space that has several classes of each.
func good(t *testing.T) []api.Attr {
	t.Helper()
	return built(t,
		addrs(api.Span{Lo: 1 << 31, Hi: 1<<31 + 7}, api.Span{Lo: 3 << 30, Hi: api.MaxWord}), addrs(api.Span{Lo: 3 << 30, Hi: api.MaxWord}),
		ports(api.Span{Lo: 80, Hi: 89}), ports(api.Span{Lo: 85, Hi: 90}),
		names("A", "GET"), names("GET", "Z"),
		path("/a/**"), path("/b*"),
		header("k", "a*"), has("k"), header("m", "b"), header("m", ""))
}

// refusedAttr: does each call that takes one attribute refuse it, and each that takes a space one with it?
func refusedAttr(t *testing.T, x []api.Attr, at int, what string) {
	t.Helper()
	if space.Right(x) {
		t.Errorf("%s is right", what)
	}
	if m, e := space.Least(x[at], 0); m != (api.Sample{}) || e != api.ErrArg {
		t.Errorf("%s: Least: %+v, error %d", what, m, e)
	}
	for _, a := range []api.Atom{addrs(api.Span{Hi: api.MaxWord}), ports(api.Span{Hi: api.MaxPort}), names("A"), path("/a/**"), has("k"), has("m"), path(deep(9)), header("k", deep(9))} {
		if in, e := space.In(x[at], a); len(in) != 0 || e != api.ErrArg {
			t.Errorf("%s: In: %v, error %d", what, in, e)
		}
	}
	same := make([]int, max(0, min(x[at].Size, 1000)))
	if y, e := space.Fuse(x[at], same); tell(y) != tell(api.Attr{}) || e != api.ErrArg {
		t.Errorf("%s: Fuse: %+v, error %d", what, y, e)
	}
	refusedSpace(t, x, what)
}

func refusedSpace(t *testing.T, x []api.Attr, what string) {
	t.Helper()
	if space.Right(x) {
		t.Errorf("%s is right", what)
	}
	if l, e := space.Classes(x, api.Request{Method: "A", Path: "/"}); len(l) != 0 || e != api.ErrArg {
		t.Errorf("%s: Classes: %v, error %d", what, l, e)
	}
	r, e := space.Request(x, make([]int, len(x)))
	if r.Method != "" || r.Path != "" || r.Addr != 0 || r.Port != 0 || len(r.Headers) != 0 || e != api.ErrArg {
		t.Errorf("%s: Request: %+v, error %d", what, r, e)
	}
}

func TestWrongAttributes(t *testing.T) {
	base := good(t)
	if !space.Right(base) {
		t.Fatal(tell(base...))
	}
	for what, change := range map[string]func(x []api.Attr) int{
		"address: no rows":          func(x []api.Attr) int { x[0].Rows = nil; return 0 },
		"address: a row less":       func(x []api.Attr) int { x[0].Rows = x[0].Rows[1:]; return 0 },
		"address: rows swapped":     func(x []api.Attr) int { x[0].Rows[0], x[0].Rows[1] = x[0].Rows[1], x[0].Rows[0]; return 0 },
		"address: no such prefix":   func(x []api.Attr) int { x[0].Rows[0].Prefix.Bits = 33; return 0 },
		"address: prefix below 0":   func(x []api.Attr) int { x[0].Rows[0].Prefix.Bits = -1; return 0 },
		"address: no such class":    func(x []api.Attr) int { x[0].Rows[len(x[0].Rows)-1].Label = 3; return 0 },
		"address: class below 0":    func(x []api.Attr) int { x[0].Rows[0].Label = -1; return 0 },
		"address: great class":      func(x []api.Attr) int { x[0].Rows[0].Label = 1 << 40; return 0 },
		"address: other order":      func(x []api.Attr) int { relabel(x[0].Rows, 0, 2, 1); return 0 },
		"address: begins with 1":    func(x []api.Attr) int { relabel(x[0].Rows, 1, 0, 2); return 0 },
		"address: Size":             func(x []api.Attr) int { x[0].Size++; return 0 },
		"address: small Size":       func(x []api.Attr) int { x[0].Size--; return 0 },
		"address: Name":             func(x []api.Attr) int { x[0].Name = "a"; return 0 },
		"address: Rest":             func(x []api.Attr) int { x[0].Rest = 1; return 0 },
		"address: Cuts":             func(x []api.Attr) int { x[0].Cuts = []api.Cut{{}}; return 0 },
		"address: Methods":          func(x []api.Attr) int { x[0].Methods = x[2].Methods; return 0 },
		"address: Bytes":            func(x []api.Attr) int { x[0].Auto.Bytes = "a"; return 0 },
		"address: Next":             func(x []api.Attr) int { x[0].Auto.Next = []int{0}; return 0 },
		"address: Out":              func(x []api.Attr) int { x[0].Auto.Out = []int{0}; return 0 },
		"port: no cuts":             func(x []api.Attr) int { x[1].Cuts = nil; return 1 },
		"port: not from 0":          func(x []api.Attr) int { x[1].Cuts[0].From = 1; return 1 },
		"port: below 0":             func(x []api.Attr) int { x[1].Cuts[0].From = -1; return 1 },
		"port: twice":               func(x []api.Attr) int { x[1].Cuts[2].From = x[1].Cuts[1].From; return 1 },
		"port: falls":               func(x []api.Attr) int { x[1].Cuts[2].From = x[1].Cuts[1].From - 1; return 1 },
		"port: too high":            func(x []api.Attr) int { x[1].Cuts[len(x[1].Cuts)-1].From = 65536; return 1 },
		"port: same class":          func(x []api.Attr) int { x[1].Cuts[4].Class = x[1].Cuts[3].Class; return 1 },
		"port: no such class":       func(x []api.Attr) int { x[1].Cuts[4].Class = 4; return 1 },
		"port: class below 0":       func(x []api.Attr) int { x[1].Cuts[4].Class = -1; return 1 },
		"port: other order":         func(x []api.Attr) int { x[1].Cuts[1].Class, x[1].Cuts[2].Class = 2, 1; return 1 },
		"port: Size":                func(x []api.Attr) int { x[1].Size = 5; return 1 },
		"port: small Size":          func(x []api.Attr) int { x[1].Size = 3; return 1 },
		"port: Name":                func(x []api.Attr) int { x[1].Name = "a"; return 1 },
		"port: Rest":                func(x []api.Attr) int { x[1].Rest = 1; return 1 },
		"port: Rows":                func(x []api.Attr) int { x[1].Rows = []api.Row{{}}; return 1 },
		"port: Methods":             func(x []api.Attr) int { x[1].Methods = x[2].Methods; return 1 },
		"port: Auto":                func(x []api.Attr) int { x[1].Auto = x[3].Auto; return 1 },
		"method: of the rest":       func(x []api.Attr) int { x[2].Methods[0].Class = x[2].Rest; return 2 },
		"method: other order":       func(x []api.Attr) int { x[2].Methods[1].Class, x[2].Methods[2].Class = 3, 2; return 2 },
		"method: falls":             func(x []api.Attr) int { m := x[2].Methods; m[1], m[2] = m[2], m[1]; return 2 },
		"method: twice":             func(x []api.Attr) int { x[2].Methods = append(x[2].Methods, x[2].Methods[2]); return 2 },
		"method: by bytes":          func(x []api.Attr) int { x[2].Methods[1].Name, x[2].Methods[2].Name = "GET", "Z"; return 2 },
		"method: small letters":     func(x []api.Attr) int { x[2].Methods[2].Name = "get"; return 2 },
		"method: empty":             func(x []api.Attr) int { x[2].Methods[0].Name = ""; return 2 },
		"method: long":              func(x []api.Attr) int { x[2].Methods[2].Name = "ABCDEFGHIJKLMNOPQ"; return 2 },
		"method: no such class":     func(x []api.Attr) int { x[2].Methods[2].Class = 4; return 2 },
		"method: class below 0":     func(x []api.Attr) int { x[2].Methods[2].Class = -1; return 2 },
		"method: Rest above":        func(x []api.Attr) int { x[2].Rest = 4; return 2 },
		"method: Rest below":        func(x []api.Attr) int { x[2].Rest = -1; return 2 },
		"method: Rest another":      func(x []api.Attr) int { x[2].Rest, x[2].Methods[1].Class = 2, 1; return 2 },
		"method: Rest first":        func(x []api.Attr) int { x[2].Rest, x[2].Methods[0].Class = 0, 1; return 2 },
		"method: Size":              func(x []api.Attr) int { x[2].Size++; return 2 },
		"method: Name":              func(x []api.Attr) int { x[2].Name = "a"; return 2 },
		"method: Rows":              func(x []api.Attr) int { x[2].Rows = []api.Row{{}}; return 2 },
		"method: Cuts":              func(x []api.Attr) int { x[2].Cuts = []api.Cut{{}}; return 2 },
		"method: Auto":              func(x []api.Attr) int { x[2].Auto = x[3].Auto; return 2 },
		"path: no automaton":        func(x []api.Attr) int { x[3].Auto = api.Auto{}; return 3 },
		"path: short Bytes":         func(x []api.Attr) int { x[3].Auto.Bytes = x[3].Auto.Bytes[1:]; return 3 },
		"path: of values":           func(x []api.Attr) int { x[3].Auto, x[3].Size = request.Values(), 1; return 3 },
		"path: all texts":           func(x []api.Attr) int { x[3].Auto, x[3].Size = mapped(t, x[3].Auto, 1, 1, 1, 1), 1; return 3 },
		"path: no text":             func(x []api.Attr) int { x[3].Auto, x[3].Size = mapped(t, x[3].Auto, 0, 0, 0, 0), 1; return 3 },
		"path: some paths":          func(x []api.Attr) int { x[3].Auto, x[3].Size = mapped(t, x[3].Auto, 0, 1, 2, 0), 2; return 3 },
		"path: other order":         func(x []api.Attr) int { x[3].Auto = mapped(t, x[3].Auto, 0, 1, 3, 2); return 3 },
		"path: begins with 2":       func(x []api.Attr) int { x[3].Auto = mapped(t, x[3].Auto, 0, 2, 1, 3); return 3 },
		"path: a class less":        func(x []api.Attr) int { x[3].Auto = mapped(t, x[3].Auto, 0, 1, 2, 2); return 3 },
		"path: a gap":               func(x []api.Attr) int { x[3].Auto = mapped(t, x[3].Auto, 0, 1, 2, 4); return 3 },
		"path: a great gap":         func(x []api.Attr) int { x[3].Auto = mapped(t, x[3].Auto, 0, 1, 2, 65535); return 3 },
		"path: other states":        func(x []api.Attr) int { a := x[3].Auto.Out; a[0] = 7; return 3 },
		"path: not in its one form": func(x []api.Attr) int { x[3].Auto = wide(x[3].Auto); return 3 },
		"path: Size":                func(x []api.Attr) int { x[3].Size++; return 3 },
		"path: small Size":          func(x []api.Attr) int { x[3].Size--; return 3 },
		"path: Name":                func(x []api.Attr) int { x[3].Name = "a"; return 3 },
		"path: Rest":                func(x []api.Attr) int { x[3].Rest = 1; return 3 },
		"path: Rows":                func(x []api.Attr) int { x[3].Rows = []api.Row{{}}; return 3 },
		"path: Cuts":                func(x []api.Attr) int { x[3].Cuts = []api.Cut{{}}; return 3 },
		"path: Methods":             func(x []api.Attr) int { x[3].Methods = x[2].Methods; return 3 },
		"header: no Name":           func(x []api.Attr) int { x[4].Name = ""; return 4 },
		"header: great Name":        func(x []api.Attr) int { x[4].Name = "K"; return 4 },
		"header: long Name":         func(x []api.Attr) int { x[4].Name = strings.Repeat("k", 33); return 4 },
		"header: Name with a sign":  func(x []api.Attr) int { x[4].Name = "k_"; return 4 },
		"header: Rest":              func(x []api.Attr) int { x[4].Rest = 1; return 4 },
		"header: Rest below":        func(x []api.Attr) int { x[4].Rest = -1; return 4 },
		"header: of paths":          func(x []api.Attr) int { x[4].Auto, x[4].Size = request.Paths(), 1; return 4 },
		"header: other order":       func(x []api.Attr) int { x[4].Auto = mapped(t, x[4].Auto, 0, 0, 3, 2); return 4 },
		"header: a gap":             func(x []api.Attr) int { x[4].Auto = mapped(t, x[4].Auto, 0, 0, 2, 4); return 4 },
		"header: NONE's alone":      func(x []api.Attr) int { x[4].Auto = mapped(t, x[4].Auto, 0, 0, 1, 1); return 4 },
		"header: no text":           func(x []api.Attr) int { x[4].Auto, x[4].Size = mapped(t, x[4].Auto, 0, 0, 0, 0), 1; return 4 },
		"header: some values":       func(x []api.Attr) int { x[4].Auto, x[4].Size = mapped(t, x[4].Auto, 0, 0, 0, 2), 2; return 4 },
		"header: all texts":         func(x []api.Attr) int { x[4].Auto, x[4].Size = mapped(t, x[4].Auto, 1, 0, 1, 1), 1; return 4 },
		"header: Size":              func(x []api.Attr) int { x[4].Size++; return 4 },
		"header: small Size":        func(x []api.Attr) int { x[4].Size--; return 4 },
		"header: Rows":              func(x []api.Attr) int { x[4].Rows = []api.Row{{}}; return 4 },
		"header: Cuts":              func(x []api.Attr) int { x[4].Cuts = []api.Cut{{}}; return 4 },
		"header: Methods":           func(x []api.Attr) int { x[4].Methods = x[2].Methods; return 4 },
		"no kind":                   func(x []api.Attr) int { x[0].Kind = 0; return 0 },
		"another kind":              func(x []api.Attr) int { x[4].Kind = 6; return 4 },
		"a kind below 0":            func(x []api.Attr) int { x[4].Kind = -1; return 4 },
		"nothing":                   func(x []api.Attr) int { x[2] = api.Attr{}; return 2 },
		"no Size":                   func(x []api.Attr) int { x[3].Size = 0; return 3 },
		"Size below 0":              func(x []api.Attr) int { x[4].Size = -1; return 4 },
		"Size far below 0":          func(x []api.Attr) int { x[3].Size = -1 << 63; return 3 },
		"Size 257":                  func(x []api.Attr) int { x[3].Size = 257; return 3 },
		"greatest Size":             func(x []api.Attr) int { x[4].Size = 1<<63 - 1; return 4 },
	} {
		x := cloneAll(base)
		at := change(x)
		if wordsRight(x[at]) {
			t.Fatalf("%s is right by the words", what)
		}
		refusedAttr(t, x, at, what)
	}
	if tell(base...) != tell(good(t)...) {
		t.Error("the changes have changed more")
	}
}

// relabel gives each row with the label i the i-th one of some.
func relabel(rows []api.Row, labels ...int) {
	for i := range rows {
		rows[i].Label = labels[rows[i].Label]
	}
}

// mapped is an automaton in its one form, with other labels.
func mapped(t *testing.T, a api.Auto, labels ...int) api.Auto {
	t.Helper()
	b, e := auto.Map(a, labels)
	if e != api.OK {
		t.Fatal(e)
	}
	return b
}

// wide says the same, with one more state, to which nothing leads.
func wide(a api.Auto) api.Auto {
	width := len(a.Next) / len(a.Out)
	return api.Auto{Bytes: a.Bytes, Next: append(slices.Clip(a.Next), make([]int, width)...), Out: append(slices.Clip(a.Out), 0)}
}

func TestRightAtTheEdges(t *testing.T) {
	base := built(t)
	for what, x := range map[string]api.Attr{
		"addresses in halves":       {Kind: api.AttrAddr, Size: 2, Rows: []api.Row{{Prefix: api.Prefix{Bits: 1}}, {Prefix: api.Prefix{Addr: 1 << 31, Bits: 1}, Label: 1}}},
		"the last port":             {Kind: api.AttrPort, Size: 2, Cuts: []api.Cut{{}, {From: 65535, Class: 1}}},
		"the rest first":            {Kind: api.AttrMethod, Size: 2, Methods: []api.Method{{Name: "B", Class: 1}}},
		"the rest second":           {Kind: api.AttrMethod, Size: 2, Rest: 1, Methods: []api.Method{{Name: "A"}}},
		"the rest third":            {Kind: api.AttrMethod, Size: 3, Rest: 2, Methods: []api.Method{{Name: "A"}, {Name: "B", Class: 1}, {Name: "D"}}},
		"a long method":             {Kind: api.AttrMethod, Size: 2, Methods: []api.Method{{Name: "ABCDEFGHIJKLMNOP", Class: 1}}},
		"empty lists":               {Kind: api.AttrMethod, Size: 1, Methods: []api.Method{}, Rows: []api.Row{}, Cuts: []api.Cut{}, Auto: api.Auto{Next: []int{}, Out: []int{}}},
		"a header that says little": {Kind: api.AttrHeader, Size: 1, Name: "k", Auto: request.Values()},
		"a long name":               {Kind: api.AttrHeader, Size: 1, Name: strings.Repeat("k", 30) + "-0", Auto: request.Values()},
	} {
		l := append(cloneAll(base), x)
		if x.Kind != api.AttrHeader {
			l = cloneAll(base)
			l[x.Kind-1] = x
		}
		if !wordsRight(x) || !space.Right(l) {
			t.Errorf("%s: %v", what, space.Right(l))
		}
		if m, e := space.Least(x, x.Size-1); e != api.OK || wordsClass(x, m) != x.Size-1 {
			t.Errorf("%s: Least: %+v, error %d", what, m, e)
		}
	}
	refusedSpace(t, append(cloneAll(base), api.Attr{Kind: api.AttrMethod, Size: 1}), "a method behind the path")
}

// As many classes as there may be, and one more.
func TestHowManyClassesAreRight(t *testing.T) {
	many := func(kind, size int) api.Attr {
		x := api.Attr{Kind: kind, Size: size}
		for i := range size {
			switch kind {
			case api.AttrAddr:
				x.Rows = append(x.Rows, api.Row{Prefix: api.Prefix{Addr: i << 23, Bits: 9}, Label: i})
			case api.AttrPort:
				x.Cuts = append(x.Cuts, api.Cut{From: i, Class: i})
			case api.AttrMethod:
				x.Methods = append(x.Methods, api.Method{Name: word(i), Class: i})
			}
		}
		switch kind {
		case api.AttrAddr:
			for i := size; i < 512; i++ { // 0 and 1 by turns, so that no two halves are one
				x.Rows = append(x.Rows, api.Row{Prefix: api.Prefix{Addr: i << 23, Bits: 9}, Label: i % 2})
			}
		case api.AttrMethod:
			x.Methods, x.Rest = x.Methods[:size-1], size-1
		}
		return x
	}
	base := built(t)
	for kind := api.AttrAddr; kind <= api.AttrMethod; kind++ {
		for size := 255; size <= 258; size++ {
			x := cloneAll(base)
			x[kind-1] = many(kind, size)
			if want := size <= 256; space.Right(x) != want || wordsRight(x[kind-1]) != want {
				t.Errorf("kind %d, %d classes: %v", kind, size, !want)
			}
			if size > 256 {
				refusedAttr(t, x, kind-1, "too many classes")
			}
		}
	}
}

func TestWrongSpaces(t *testing.T) {
	x := good(t)
	named := func(name string) api.Attr { y := clone(x[4]); y.Name = name; return y }
	space8 := x[:4:4]
	for i := range 8 {
		space8 = append(space8, named(string(rune('a'+i))))
	}
	for what, l := range map[string][]api.Attr{"four": x[:4], "five": x[:5], "eight headers": space8} {
		if !space.Right(l) {
			t.Errorf("%s attributes are not right", what)
		}
	}
	for what, l := range map[string][]api.Attr{
		"nothing":                nil,
		"an empty list":          {},
		"three attributes":       x[:3],
		"no address":             x[1:],
		"a header alone":         x[4:5],
		"nine headers":           append(slices.Clip(space8), named("z")),
		"two of one name":        append(x[:5:5], x[4]),
		"headers that fall":      {x[0], x[1], x[2], x[3], x[5], x[4]},
		"the ports twice":        {x[0], x[1], x[1], x[3]},
		"ports first":            {x[1], x[0], x[2], x[3]},
		"the path behind":        {x[0], x[1], x[2], x[4], x[3]},
		"the path twice":         {x[0], x[1], x[2], x[3], x[3]},
		"the address twice":      {x[0], x[1], x[2], x[3], x[0]},
		"no path":                {x[0], x[1], x[2], x[4]},
		"a header wrong":         append(x[:5:5], named("Z")),
		"many attributes":        slices.Repeat(x, 50),
		"the name's end is less": {x[0], x[1], x[2], x[3], named("ab"), named("a")},
	} {
		refusedSpace(t, l, what)
	}
}

// changed is an attribute that is often wrong, and often right.
func changed(r *rand.Rand, x api.Attr) api.Attr {
	x = clone(x)
	number := func(n *int) { *n = pick(r, *n+1, *n-1, *n, r.Intn(4)) }
	switch r.Intn(7) {
	case 0:
		x.Size += pick(r, -1, 0, 1)
	case 1:
		x.Rest += pick(r, -1, 0, 1)
	case 2:
		x.Kind = 1 + r.Intn(5)
	case 3, 4, 5:
		switch {
		case len(x.Rows) > 0:
			number(pick(r, &x.Rows[r.Intn(len(x.Rows))].Label, &x.Rows[r.Intn(len(x.Rows))].Label, &x.Rows[r.Intn(len(x.Rows))].Prefix.Bits))
		case len(x.Cuts) > 0:
			c := &x.Cuts[r.Intn(len(x.Cuts))]
			number(pick(r, &c.Class, &c.From))
		case len(x.Methods) > 0:
			m := &x.Methods[r.Intn(len(x.Methods))]
			number(&m.Class)
			m.Name = pick(r, m.Name, m.Name, word(r.Intn(30)), m.Name+"A")
		case len(x.Auto.Out) > 0:
			number(&x.Auto.Out[r.Intn(len(x.Auto.Out))])
			if a, e := auto.Least(x.Auto); e == api.OK {
				x.Auto = a
			}
		}
	case 6:
		if len(x.Auto.Out) == 0 {
			break
		}
		to := r.Perm(x.Size)
		labels := []int{0}
		for _, n := range to {
			labels = append(labels, pick(r, n, n, n/2)+1)
		}
		x.Auto, _ = auto.Map(x.Auto, labels)
		x.Size = slices.Max(x.Auto.Out)
	}
	return x
}

func TestRightByChance(t *testing.T) {
	r := rand.New(rand.NewSource(5))
	rights, wrongs := map[int]int{}, map[int]int{}
	for range 150 {
		x, e := space.Build(randomTests(r, 8))
		if e != api.OK {
			continue
		}
		for i := range x {
			y := changed(r, x[i])
			l := cloneAll(x)
			l[i] = y
			want := wordsRight(y)
			if want {
				rights[y.Kind]++
			} else {
				wrongs[y.Kind]++
			}
			if _, e := space.Least(y, 0); (e == api.OK) != want {
				t.Fatalf("%s: error %d", tell(y), e)
			}
			if is := space.Right(l); is != (want && y.Kind == x[i].Kind) {
				t.Fatalf("%s: %v", tell(y), is)
			}
		}
	}
	for kind := api.AttrAddr; kind <= api.AttrHeader; kind++ {
		if rights[kind] < 20 || wrongs[kind] < 20 {
			t.Errorf("kind %d: %d were right, %d wrong", kind, rights[kind], wrongs[kind])
		}
	}
}

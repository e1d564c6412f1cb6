package lower_test

import (
	"math/big"
	"math/rand"
	"strings"
	"testing"

	"lychgate/api"
	"lychgate/check"
	"lychgate/glob"
	"lychgate/lower"
)

// wordsBound is L7 by its words, in numbers of any size; true, if it is told in the place of a greater one.
func wordsBound(p api.Policy) (int, bool) {
	count := map[string]int64{}
	weights := map[string]*big.Int{}
	left := []api.Cond{}
	rules := int64(0)
	for _, x := range p.Items {
		left = append(left, x.Cond)
		if x.Kind != api.ItemLet {
			rules++
		}
	}
	n := int64(0)
	for ; len(left) > 0; n++ {
		c := left[0]
		left = append(left[1:], c.Kids...)
		count["a"] += int64(len(c.Prefixes))
		count["r"] += int64(len(c.Spans))
		count["m"] += int64(len(c.Names))
		key := map[int]string{api.CondPath: "path", api.CondHeader: "header " + c.Name, api.CondHas: "header " + c.Name}[c.Kind]
		if key == "" {
			continue
		}
		if weights[key] == nil {
			weights[key] = big.NewInt(0)
		}
		if c.Kind != api.CondHas {
			if weights[key].Sign() == 0 {
				weights[key].SetInt64(1)
			}
			weights[key].Mul(weights[key], wordsWeight(c.Text))
		}
	}
	numbers := []*big.Int{big.NewInt(2*count["a"] + 1), big.NewInt(2*count["r"] + 1), big.NewInt(count["m"] + 1)}
	path := big.NewInt(1)
	if w := weights["path"]; w != nil {
		path.Mul(big.NewInt(16), w)
	}
	numbers = append(numbers, path)
	for key, w := range weights {
		if key == "path" {
			continue
		}
		header := big.NewInt(2)
		if w.Sign() > 0 {
			header.Add(big.NewInt(1), header.Mul(big.NewInt(4), w))
		}
		numbers = append(numbers, header)
	}
	out := big.NewInt(int64(len(numbers)))
	for _, m := range numbers {
		if m.Cmp(big.NewInt(256)) > 0 {
			return 1 << 30, true
		}
		out.Mul(out, m)
	}
	out.Mul(out, big.NewInt(n+20*(rules+1)))
	if out.Cmp(big.NewInt(1<<30)) > 0 {
		return 1 << 30, true
	}
	return int(out.Int64()), false
}

func wordsWeight(s string) *big.Int {
	l, _, _ := glob.Parse(s)
	for i, p := range l {
		if i+1 < len(l) && (p.Kind == api.PieceStar || p.Kind == api.PieceDeep) {
			return new(big.Int).Lsh(big.NewInt(1), uint(len(l)+1))
		}
	}
	return big.NewInt(int64(len(l) + 2))
}

func wantBound(t *testing.T, s string, want int) {
	t.Helper()
	p := policy(t, s)
	if n, e := lower.Bound(p); n != want || e != api.OK {
		t.Errorf("%s: %d, error %d; want %d", s, n, e, want)
	}
	if n, _ := wordsBound(p); n != want {
		t.Errorf("%s: by the words %d; want %d", s, n, want)
	}
}

const beyond = 1 << 30

func TestExamplesOfBound(t *testing.T) {
	wantBound(t, chapter, 2560)
	wantBound(t, `allow a when path ~ "a" or path ~ "b";`, 24768)
}

func TestBoundOfEachKind(t *testing.T) {
	for s, want := range map[string]int{
		"":                         4 * 20,
		"let a = true;":            4 * 21,
		"allow a when true;":       4 * 41,
		"deny a when false;":       4 * 41,
		"let a = true; let b = a;": 4 * 22,
		"let a = true; allow b when a; deny c when not a;":                      4 * 64,
		"allow a when true and (false or not true);":                            4 * 46,
		"allow a when addr in {1.2.3.4};":                                       3 * 4 * 41,
		"allow a when addr in {1.2.3.4, 1.2.3.4, 0.0.0.0/0};":                   7 * 4 * 41,
		"allow a when addr in {1.2.3.4} or addr in {1.2.3.4};":                  5 * 4 * 43,
		"allow a when port in {80, 1-9, 1-9};":                                  7 * 4 * 41,
		"allow a when port in {80}; deny b when port in {80};":                  5 * 4 * 62,
		"allow a when method in {GET, PUT, GET};":                               4 * 4 * 41,
		"allow a when addr in {1.2.3.4} and port in {1} and not method in {A};": 3 * 3 * 2 * 4 * 45,
		`allow a when path ~ "";`:                                               16 * 2 * 4 * 41,
		`allow a when path ~ "*";`:                                              16 * 3 * 4 * 41,
		`allow a when path ~ "**";`:                                             16 * 3 * 4 * 41,
		`allow a when path ~ "/a/*";`:                                           16 * 6 * 4 * 41,
		`allow a when path ~ "/a/**";`:                                          16 * 6 * 4 * 41,
		`allow a when path ~ "/[a-z]?";`:                                        16 * 5 * 4 * 41,
		`allow a when path ~ "*a";`:                                             16 * 8 * 4 * 41,
		`allow a when path ~ "**a";`:                                            16 * 8 * 4 * 41,
		`allow a when path ~ "a*a";`:                                            16 * 16 * 4 * 41,
		`allow a when path ~ "\\*a\\?";`:                                        16 * 5 * 4 * 41,
		`allow a when path ~ "**/";`:                                            16 * 8 * 4 * 41,
		`allow a when path ~ "a" and path ~ "a";`:                               16 * 9 * 4 * 43,
		`allow a when has "k";`:                                                 2 * 5 * 41,
		`allow a when has "k" or has "k";`:                                      2 * 5 * 43,
		`allow a when has "k" or has "l";`:                                      2 * 2 * 6 * 43,
		`let x = header "k" ~ "a";`:                                             13 * 5 * 21,
		`let x = header "k" ~ "";`:                                              9 * 5 * 21,
		`let x = header "k" ~ "*a";`:                                            33 * 5 * 21,
		`let x = header "k" ~ "a" and has "k";`:                                 13 * 5 * 23,
		`let x = has "k" and header "k" ~ "a";`:                                 13 * 5 * 23,
		`let x = header "k" ~ "a" and header "k" ~ "a";`:                        37 * 5 * 23,
		`let x = header "k" ~ "a" and header "l" ~ "ab";`:                       13 * 17 * 6 * 23,
		`let x = header "k" ~ "a" and path ~ "ab";`:                             13 * 16 * 4 * 5 * 23,
		`let x = header "k" ~ "a" or has "l" or has "m" or has "n";`:            13 * 8 * 8 * 25,
	} {
		wantBound(t, s, want)
	}
}

// Numbers of just 256, and above it.
func TestBoundOfGreatNumbers(t *testing.T) {
	list := func(n int, one string) string { return strings.TrimSuffix(strings.Repeat(one+",", n), ",") }
	// row is a row of conditions with lists that have so many parts together.
	row := func(kind, one string, n int) string {
		var l []string
		for ; n > 32; n -= 32 {
			l = append(l, kind+" in {"+list(32, one)+"}")
		}
		return "let a = " + strings.Join(append(l, kind+" in {"+list(n, one)+"}"), " or ") + ";"
	}
	wantBound(t, row("addr", "1.2.3.4", 127), 255*4*25)
	wantBound(t, row("addr", "1.2.3.4", 128), beyond)
	wantBound(t, row("port", "80", 127), 255*4*25)
	wantBound(t, row("port", "80", 128), beyond)
	wantBound(t, row("method", "GET", 255), 256*4*29)
	wantBound(t, row("method", "GET", 256), beyond)
	path := func(n int) string { return `let a = path ~ "` + strings.Repeat("a", n) + `";` }
	wantBound(t, path(14), 256*4*21)
	wantBound(t, path(15), beyond)
	wantBound(t, path(64), beyond)
	wantBound(t, `let a = path ~ "*aa";`, 16*16*4*21)
	wantBound(t, `let a = path ~ "*aaa";`, beyond)
	header := func(n int) string { return `let a = header "k" ~ "` + strings.Repeat("a", n) + `";` }
	wantBound(t, header(61), 253*5*21)
	wantBound(t, header(62), beyond)
	wantBound(t, `let a = header "k" ~ "*aaa";`, (1+4*32)*5*21)
	wantBound(t, `let a = header "k" ~ "*aaaa";`, beyond)
	// Each number counts for itself, wherever it stands.
	wantBound(t, `let a = has "a" or has "b" or has "c" or header "d" ~ "*aaaa";`, beyond)
	wantBound(t, `let a = header "a" ~ "*aaaa" or has "b" or has "c";`, beyond)
}

// Weights that would come to nothing, or to little, if they were cut to fewer bits.
func TestBoundDoesNotWrap(t *testing.T) {
	for _, n := range []int{28, 29, 30, 31, 32, 61, 62, 63} {
		long := "*" + strings.Repeat("a", n)
		wantBound(t, `let a = path ~ "`+long+`";`, beyond)
		wantBound(t, `let a = header "k" ~ "`+long+`";`, beyond)
		wantBound(t, `let a = path ~ "`+long+`" and path ~ "`+long+`";`, beyond)
	}
	for _, one := range []string{"", "a", "*aa", strings.Repeat("a", 14), strings.Repeat("a", 62)} {
		for _, many := range []int{2, 8, 15, 16, 17, 31, 32} {
			s := strings.TrimSuffix(strings.Repeat(`path ~ "`+one+`" or `, many), " or ")
			n, _ := wordsBound(policy(t, "let a = "+s+";"))
			wantBound(t, "let a = "+s+";", n)
			s = strings.ReplaceAll(s, "path", `header "k"`)
			n, _ = wordsBound(policy(t, "let a = "+s+";"))
			wantBound(t, "let a = "+s+";", n)
		}
	}
}

// Products about 2^30 and beyond 2^64, all of whose numbers are at most 256.
func TestBoundOfGreatProducts(t *testing.T) {
	ports := func(n int) string { return "port in {" + strings.TrimSuffix(strings.Repeat("8,", n), ",") + "}" }
	less := 0
	for _, methods := range []string{"A", "A,A,A", "A,A,A,A,A,A,A"} {
		for _, more := range []string{"", ` or header "k" ~ "aa"`, ` or path ~ "a*a"`, ` or path ~ "a*a" or header "k" ~ "*aa"`, ` or header "k" ~ "*aa" or header "l" ~ "*aa" or header "m" ~ "*aa" or header "n" ~ "*aa"`} {
			for n := 1; n <= 32; n++ {
				s := "let a = " + ports(n) + " or method in {" + methods + "} or addr in {1.2.3.4,1.2.3.4}" + more + ";"
				want, is := wordsBound(policy(t, s))
				wantBound(t, s, want)
				if !is && want > 1<<28 {
					less++
				}
			}
		}
	}
	if less < 5 {
		t.Errorf("%d just below", less)
	}
	// 256^8, and what of that 64 bits would leave.
	all := `path ~ "aaaaaaaaaaaaaa"`
	for _, k := range []string{"a", "b", "c", "d"} {
		all += ` or header "` + k + `" ~ "` + strings.Repeat("a", 61) + `"`
	}
	for range 4 {
		all += " or " + ports(31)
	}
	wantBound(t, "let a = "+all+";", beyond)
	// Just 2^30, and on both sides of it: 8 numbers, 256 twice, 2 four times, and 128 by conditions and rules.
	methods := "method in {" + strings.TrimSuffix(strings.Repeat("A,", 32), ",") + "}"
	for nots, want := range map[int]int{10: 127 << 23, 11: beyond, 12: beyond} {
		wantBound(t, "let m = "+strings.Repeat(methods+" or ", 7)+strings.Replace(methods, "A,", "", 1)+";"+
			`allow p when path ~ "a*a"; deny h when has "a" or has "b" or has "c" or has "d"; allow t when true; allow n when `+strings.Repeat("not ", nots)+"true;", want)
	}
}

func TestBoundRefuses(t *testing.T) {
	twice := policy(t, "allow a when true;")
	twice.Items = append(twice.Items, twice.Items[0])
	for _, p := range []api.Policy{
		{Items: []api.Item{{}}},
		{Items: []api.Item{{Kind: api.ItemAllow, Name: "a"}}},
		{Items: []api.Item{{Kind: api.ItemAllow, Name: "a", Cond: api.Cond{Kind: api.CondPath, Text: "["}}}},
		{Items: []api.Item{{Kind: api.ItemAllow, Name: "a", Cond: api.Cond{Kind: api.CondName, Name: "b"}}}},
		{Items: []api.Item{{Kind: api.ItemAllow, Name: "a", Cond: api.Cond{Kind: api.CondHas, Name: "B"}}}},
		twice,
	} {
		if e, _ := check.Check(p); e == api.OK {
			t.Fatalf("%+v is taken", p)
		}
		if n, e := lower.Bound(p); n != 0 || e != api.ErrArg {
			t.Errorf("%+v: %d, error %d", p, n, e)
		}
	}
}

func TestBoundAtRandom(t *testing.T) {
	r := rand.New(rand.NewSource(41))
	met := map[bool]int{}
	for range 4000 {
		p := policy(t, randomSource(r, 6))
		want, is := wordsBound(p)
		if n, e := lower.Bound(p); n != want || e != api.OK {
			t.Fatalf("%d, error %d; want %d: %+v", n, e, want, p)
		}
		met[is]++
	}
	if met[true] < 400 || met[false] < 1000 {
		t.Errorf("%v", met)
	}
}

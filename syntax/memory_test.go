package syntax_test

import (
	"fmt"
	"math/rand"
	"slices"
	"strconv"
	"testing"
	"unsafe"

	"lychgate/api"
	"lychgate/syntax"
)

const mixed = `let ab = not (true or b1) and port in { 80, 1 - 9 }; allow x when addr in {1.2.3.4, 10.0.0.0/8} or header "host" ~ "a*" or (has "key" and method in {GET, PUT}); deny y when path ~ "/q";`

// spoil writes over all lists of a condition, their spare room too.
func spoil(c *api.Cond) {
	fill(c.Prefixes, api.Prefix{Addr: -9})
	fill(c.Spans, api.Span{Lo: -9})
	fill(c.Names, "mark")
	for i := range c.Kids {
		spoil(&c.Kids[i])
	}
	fill(c.Kids, api.Cond{Kind: -9})
}

func fill[T any](l []T, v T) {
	l = l[:cap(l)]
	for i := range l {
		l[i] = v
	}
}

func TestPoliciesAreNewMemory(t *testing.T) {
	first, second := parse(mixed), parse(mixed)
	want := second.told()
	for i := range first.policy.Items {
		spoil(&first.policy.Items[i].Cond)
	}
	fill(first.policy.Items, api.Item{Kind: -9})
	if second.told() != want || parse(mixed).told() != want {
		t.Error("answers of Parse share memory")
	}
}

// No two lists of one answer share memory, their spare room with them.
func TestListsOfOnePolicyAreApart(t *testing.T) {
	var lists []*api.Cond
	var all func(c *api.Cond)
	all = func(c *api.Cond) {
		lists = append(lists, c)
		for i := range c.Kids {
			all(&c.Kids[i])
		}
	}
	p := parse(mixed).policy
	for i := range p.Items {
		all(&p.Items[i].Cond)
	}
	for i, c := range lists {
		before := fmt.Sprint(lists[:i], p.Items)
		c.Prefixes, c.Spans, c.Names, c.Kids = extended(c.Prefixes), extended(c.Spans), extended(c.Names), extended(c.Kids)
		if fmt.Sprint(lists[:i], p.Items) != before {
			t.Errorf("list %d", i)
		}
	}
}

// extended writes into a list's spare room, and gives the list as it was.
func extended[T any](l []T) []T {
	var zero T
	_ = append(l, zero)
	return l
}

// within: does a piece lie in a text's own memory?
func within(piece, text string) bool {
	if piece == "" || text == "" {
		return false
	}
	from := uintptr(unsafe.Pointer(unsafe.StringData(text)))
	at := uintptr(unsafe.Pointer(unsafe.StringData(piece)))
	return from <= at && at < from+uintptr(len(text))
}

func TestTextsShareNothingWithTheSource(t *testing.T) {
	source := string([]byte(mixed))
	var look func(c api.Cond)
	look = func(c api.Cond) {
		for _, s := range append(slices.Clone(c.Names), c.Name, c.Text) {
			if within(s, source) {
				t.Errorf("%q is a piece of the source", s)
			}
		}
		for _, kid := range c.Kids {
			look(kid)
		}
	}
	for _, x := range parse(source).policy.Items {
		look(x.Cond)
		look(api.Cond{Name: x.Name})
	}
}

// roomy is a condition whose lists have spare room, with marks in it.
func roomy(c api.Cond) api.Cond {
	c.Prefixes, c.Spans, c.Names = withRoom(c.Prefixes, api.Prefix{Addr: 77}), withRoom(c.Spans, api.Span{Lo: 77}), withRoom(c.Names, "room")
	kids := make([]api.Cond, 0, len(c.Kids)+1)
	for _, kid := range c.Kids {
		kids = append(kids, roomy(kid))
	}
	c.Kids = withRoom(kids, api.Cond{Kind: 77})
	return c
}

func withRoom[T any](l []T, mark T) []T {
	return append(slices.Clone(l), mark)[:len(l)]
}

// whole tells all of a condition, its spare room too.
func whole(c api.Cond) string {
	s := fmt.Sprint(c.Kind, c.Name, c.Text, c.At, c.Prefixes[:cap(c.Prefixes)], c.Spans[:cap(c.Spans)], c.Names[:cap(c.Names)])
	for _, kid := range c.Kids {
		s += whole(kid)
	}
	return s + fmt.Sprint(c.Kids[:cap(c.Kids)])
}

func TestPoliciesAreNotWrittenInto(t *testing.T) {
	r := rand.New(rand.NewSource(18))
	for i := range 500 {
		c := roomy(randomCond(r, 4))
		if i%2 == 0 {
			c = roomy(spoiled(r, c))
		}
		p := api.Policy{Items: withRoom(one(c).Items, api.Item{Kind: 77})}
		before := whole(c) + fmt.Sprint(p.Items[:cap(p.Items)])
		first, e := syntax.Print(p)
		syntax.Right(p)
		syntax.Same(p, p)
		if whole(c)+fmt.Sprint(p.Items[:cap(p.Items)]) != before {
			t.Fatal("a policy was written into")
		}
		if second, f := syntax.Print(p); first != second || e != f {
			t.Fatal("Print says two things of one policy")
		}
	}
}

func TestFaultsGiveNoPolicy(t *testing.T) {
	for _, s := range []string{mixed + "?", mixed + "let", mixed + nots(16) + "b;", mixed + repeat("let a=b;", 98), mixed + repeat(" ", 8000), mixed + "let a = b and port in {1,", "let a = b and " + row("b", " and ", 33)} {
		if p, e, _ := syntax.Parse(s); p.Items != nil || e == api.OK {
			t.Errorf("Parse(%s): %v, error %d", short(s), p, e)
		}
	}
}

// Calls at the same time do not disturb one another.
func TestCallsAtTheSameTime(t *testing.T) {
	for seed := range 8 {
		t.Run(strconv.Itoa(seed), func(t *testing.T) {
			t.Parallel()
			r := rand.New(rand.NewSource(int64(seed)))
			for range 200 {
				s, p := laid(randomPolicy(r), r)
				if got := parse(s); len(s) <= 8000 && got.told() != (answer{policy: p}).told() {
					t.Fatal(short(s))
				}
				checkParse(t, "let a = "+randomEdge(r, 15)+";")
				if u, e := syntax.Print(p); e == api.OK {
					if want, _ := laid(p, nil); u != want || !syntax.Same(parse(u).policy, p) {
						t.Fatal(short(u))
					}
				}
			}
		})
	}
}

package check_test

import (
	"fmt"
	"math/rand"
	"slices"
	"sync"
	"testing"
	"unsafe"

	"lychgate/api"
	"lychgate/check"
)

const each = `let n = has "x-y" or not true; allow x when (addr in {1.2.3.4, 10.0.0.0/8} or port in {80, 1-9}) and n or method in {PUT, GET, GET} or path ~ "/[ab][!c]*" or header "host" ~ "[x]" or has "key";`

// fill writes over all of a list, spare room too.
func fill[T any](l []T, v T) {
	l = l[:cap(l)]
	for i := range l {
		l[i] = v
	}
}

// spoil writes over all lists of a condition.
func spoil(c api.Cond) {
	fill(c.Prefixes, api.Prefix{Addr: -9})
	fill(c.Spans, api.Span{Lo: -9})
	fill(c.Names, "mark")
	for _, kid := range c.Kids[:cap(c.Kids)] {
		spoil(kid)
	}
	fill(c.Kids, api.Cond{Kind: -9})
}

func TestAnswersAreNewMemory(t *testing.T) {
	first, _, _ := check.Accept(each)
	second, _, _ := check.Accept(each)
	want := fmt.Sprintf("%+v", second)
	for i, x := range first.Items {
		rest := fmt.Sprintf("%+v", first.Items[i+1:])
		spoil(x.Cond)
		if fmt.Sprintf("%+v", first.Items[i+1:]) != rest {
			t.Error("items of one answer share memory")
		}
	}
	fill(first.Items, api.Item{Kind: -9})
	third, _, _ := check.Accept(each)
	if fmt.Sprintf("%+v", second) != want || fmt.Sprintf("%+v", third) != want {
		t.Error("answers of Accept share memory")
	}
	one, _ := check.Headers(second)
	two, _ := check.Headers(second)
	fill(one, "mark")
	three, _ := check.Headers(second)
	names := []string{"host", "key", "x-y"}
	if !slices.Equal(two, names) || !slices.Equal(three, names) || fmt.Sprintf("%+v", second) != want {
		t.Error("answers of Headers share memory")
	}
}

// within: does a text lie in another one's memory?
func within(s, all string) bool {
	at := uintptr(unsafe.Pointer(unsafe.StringData(s)))
	from := uintptr(unsafe.Pointer(unsafe.StringData(all)))
	return s != "" && all != "" && at >= from && at < from+uintptr(len(all))
}

func TestTextsAreNewMemory(t *testing.T) {
	source := string([]byte(each))
	p, _, _ := check.Accept(source)
	for _, x := range steps(p) {
		texts := []string{p.Items[x.item].Name}
		if x.cond != nil {
			texts = append(append(texts, x.cond.Name, x.cond.Text), x.cond.Names...)
		}
		for _, s := range texts {
			if within(s, source) {
				t.Errorf("%q is the source's own", s)
			}
		}
	}
	names, _ := check.Headers(p)
	for _, x := range steps(p) {
		for _, s := range names {
			if x.cond != nil && within(s, x.cond.Name) {
				t.Errorf("%q is the policy's own", s)
			}
		}
	}
}

func withRoom[T any](l []T, mark T) []T {
	return append(slices.Clone(l), mark)[:len(l)]
}

// roomy is a condition whose lists have spare room, with marks in it.
func roomy(c api.Cond) api.Cond {
	c.Prefixes, c.Spans, c.Names = withRoom(c.Prefixes, api.Prefix{Addr: 77}), withRoom(c.Spans, api.Span{Lo: 77}), withRoom(c.Names, "room")
	var kids []api.Cond
	for _, kid := range c.Kids {
		kids = append(kids, roomy(kid))
	}
	c.Kids = withRoom(kids, api.Cond{Kind: 77})
	return c
}

// whole tells all of a condition, its spare room too.
func whole(c api.Cond) string {
	s := fmt.Sprint(c.Kind, c.Name, c.Text, c.At, c.Prefixes[:cap(c.Prefixes)], c.Spans[:cap(c.Spans)], c.Names[:cap(c.Names)])
	for _, kid := range c.Kids {
		s += whole(kid)
	}
	return s + fmt.Sprint(c.Kids[:cap(c.Kids)])
}

func TestPoliciesAreNotWrittenInto(t *testing.T) {
	r := rand.New(rand.NewSource(7))
	for i := range 600 {
		m := &maker{Rand: r, parts: []int{20, 2000}[i%2], headers: 4}
		p := m.policy(6)
		for k := range p.Items {
			p.Items[k].Cond = roomy(p.Items[k].Cond)
		}
		p.Items = withRoom(p.Items, api.Item{Kind: 77})
		tell := func() string {
			s := fmt.Sprint(p.Items[:cap(p.Items)])
			for _, x := range p.Items {
				s += whole(x.Cond)
			}
			return s
		}
		before := tell()
		check.Check(p)
		check.Headers(p)
		if tell() != before {
			t.Fatal("a policy was written into")
		}
	}
}

func TestCallsSideBySide(t *testing.T) {
	p := policy(t, each)
	var all sync.WaitGroup
	for range 8 {
		all.Add(1)
		go func() {
			defer all.Done()
			for range 30 {
				e, _ := check.Check(p)
				l, f := check.Headers(p)
				_, g, _ := check.Accept(each)
				if e != api.OK || f != api.OK || g != api.OK || len(l) != 3 {
					t.Error(e, f, g, l)
				}
			}
		}()
	}
	all.Wait()
}

package fuse_test

import (
	"fmt"
	"math/rand"
	"slices"
	"sync"
	"testing"

	"lychgate/api"
	"lychgate/fuse"
)

// The chapter's program, and the one with `and false` behind its second rule.
const (
	chapter      = "allow a when addr in {10.0.0.0/8} or port in {80}; allow b when addr in {10.0.0.0/8} or addr in {11.0.0.0/8} and port in {81};"
	chapterFalse = "allow a when addr in {10.0.0.0/8} or port in {80}; allow b when addr in {10.0.0.0/8} or addr in {11.0.0.0/8} and port in {81} and false;"
)

func TestExamplesOfAlike(t *testing.T) {
	p := program(t, chapter)
	// The diagrams: 80, 10 or 80; 81, 10 or 11 and 81. What is known of the port is a set of addresses.
	wantAlike(t, p, 0, []int{0, 1, 2}, 4)
	wantAlike(t, p, 1, []int{0, 1, 2}, 6)
	wantAlike(t, p, 2, []int{0}, 4)
	wantAlike(t, p, 3, []int{0}, 4)
	p = program(t, chapterFalse)
	wantAlike(t, p, 0, []int{0, 1, 0}, 3)
	wantAlike(t, p, 1, []int{0, 1, 0}, 3)
	wantAlike(t, p, 2, []int{0}, 3)
	p = program(t, "let x = addr in {10.0.0.0/8} or port in {80, 90-95} or port in {91} or method in {GET} or header \"k\" ~ \"a*\" or has \"k\";")
	for attr, want := range [][]int{{0, 0}, {0, 0, 0}, {0, 0}, {0}, {0, 0, 0}} {
		wantAlike(t, p, attr, want, 0)
	}
	wantNotAlike(t, p, -1, 100, api.ErrArg)
	wantNotAlike(t, p, 0, 8193, api.ErrArg)
}

// By tables, what is alike and how many nodes there are in the end; the port is asked ahead of the method.
func TestAlikeByTables(t *testing.T) {
	for _, x := range []struct {
		policies             []string
		port, method         []int
		madePort, madeMethod int
	}{
		{[]string{""}, []int{0, 0, 0}, []int{0, 0, 0}, 0, 0},
		{[]string{"+a 000/000/000"}, []int{0, 0, 0}, []int{0, 0, 0}, 0, 0},
		{[]string{"-a 111/111/111"}, []int{0, 0, 0}, []int{0, 0, 0}, 0, 0},
		{[]string{"+a 000/111/000"}, []int{0, 1, 0}, []int{0, 0, 0}, 1, 1},
		{[]string{"+a 000/000/111"}, []int{0, 0, 2}, []int{0, 0, 0}, 1, 1},
		{[]string{"+a 000/111/111"}, []int{0, 1, 1}, []int{0, 0, 0}, 1, 1},
		{[]string{"-a 010/010/010"}, []int{0, 0, 0}, []int{0, 1, 0}, 1, 1},
		{[]string{"-a 011/011/011"}, []int{0, 0, 0}, []int{0, 1, 1}, 1, 1},
		{[]string{"-a 110/110/110"}, []int{0, 0, 0}, []int{0, 0, 2}, 1, 1},
		// What is known of the method is a set of ports; of the port, what the root leads to.
		{[]string{"+a 010/101/010"}, []int{0, 1, 0}, []int{0, 1, 0}, 3, 5},
		{[]string{"+a 100/010/001"}, []int{0, 1, 2}, []int{0, 1, 2}, 4, 7},
		{[]string{"+a 110/110/001"}, []int{0, 0, 2}, []int{0, 0, 2}, 3, 5},
		{[]string{"+a 011/100/100"}, []int{0, 1, 1}, []int{0, 1, 1}, 3, 5},
		{[]string{"+a 000/010/000"}, []int{0, 1, 0}, []int{0, 1, 0}, 2, 3},
		{[]string{"+a 010/111/010"}, []int{0, 1, 0}, []int{0, 1, 0}, 2, 3},
		// One rule tells apart what another one does not.
		{[]string{"+a 000/111/000, +b 010/010/010"}, []int{0, 1, 0}, []int{0, 1, 0}, 2, 2},
		{[]string{"+a 111/000/000, -b 001/001/001"}, []int{0, 1, 1}, []int{0, 0, 2}, 2, 2},
		{[]string{"+a 111/000/000, +b 000/111/000"}, []int{0, 1, 2}, []int{0, 0, 0}, 2, 2},
		{[]string{"+a 111/000/000, +b 111/000/000"}, []int{0, 1, 1}, []int{0, 0, 0}, 1, 1},
		{[]string{"+a 000/111/111, +b 111/000/000"}, []int{0, 1, 1}, []int{0, 0, 0}, 2, 2},
		// What a rule says is asked, not what the policy says: the second rule changes nothing.
		{[]string{"-a 111/111/111, +b 010/010/010"}, []int{0, 0, 0}, []int{0, 1, 0}, 1, 1},
		{[]string{"+a 000/111/000, +b 000/000/111, +c 000/111/111"}, []int{0, 1, 2}, []int{0, 0, 0}, 3, 3},
		// Both policies' rules.
		{[]string{"+a 000/111/000", "+a 000/000/111"}, []int{0, 1, 2}, []int{0, 0, 0}, 2, 2},
		{[]string{"", "-a 000/111/000"}, []int{0, 1, 0}, []int{0, 0, 0}, 1, 1},
		{[]string{"-a 010/010/010", ""}, []int{0, 0, 0}, []int{0, 1, 0}, 1, 1},
		{[]string{"+a 110/110/001", "-a 011/100/100"}, []int{0, 1, 2}, []int{0, 1, 2}, 6, 10},
	} {
		p := ofTables(t, portFirst(), x.policies...)
		wantAlike(t, p, 1, x.port, x.madePort)
		wantAlike(t, p, 2, x.method, x.madeMethod)
		for _, attr := range []int{0, 3} {
			wantAlike(t, p, attr, []int{0}, len(p.Nodes))
		}
		wantByWords(t, p)
		// In the other order of the levels the same are alike.
		p = ofTables(t, methodFirst(), x.policies...)
		for attr, want := range [][]int{{0}, x.port, x.method, {0}} {
			if l, e := fuse.Alike(p, attr, api.MaxNodes); !slices.Equal(l, want) || e != api.OK {
				t.Errorf("%q, Alike of %d: %v, error %d; want %v", x.policies, attr, l, e, want)
			}
		}
		wantByWords(t, p)
	}
}

// All of it is done, though it is known by then how any two classes stand.
func TestAlikeAsksAllRules(t *testing.T) {
	// The first two rules tell all methods apart; each class of the method makes a set of ports of the third one.
	for _, rules := range []string{
		"+a 100/100/100, +b 010/010/010, +c 100/010/001",
		"+c 100/010/001, +a 100/100/100, +b 010/010/010",
		"+a 100/100/100, -c 100/010/001, +b 010/010/010",
	} {
		wantAlike(t, ofTables(t, portFirst(), rules), 2, []int{0, 1, 2}, 7)
		wantAlike(t, ofTables(t, portFirst(), rules), 1, []int{0, 1, 2}, 4)
	}
	// Two methods that the first rule tells apart, and a rule behind it that makes something of the one, or of the other.
	wantAlike(t, ofTables(t, portFirst(), "+a 011/011/011, +b 000/100/000"), 2, []int{0, 1, 1}, 4)
	wantAlike(t, ofTables(t, portFirst(), "+a 110/110/110, +b 000/001/000"), 2, []int{0, 0, 2}, 4)
	// Of the last class of the last rule alone something is made.
	wantAlike(t, ofTables(t, portFirst(), "+a 100/100/100, +b 010/010/010", "+c 001/000/000"), 2, []int{0, 1, 2}, 5)
}

// One that makes nothing has room where others have none, whichever attribute it is.
func TestRoomOfEachAttribute(t *testing.T) {
	rules := "+a 010/101/010"
	for most := range 9 {
		p, q := ofTables(t, portFirst(), rules), ofTables(t, methodFirst(), rules)
		for attr, made := range []int{3, 3, 5, 3} {
			wantRoom(t, p, attr, most, most >= made)
		}
		for attr, made := range []int{3, 5, 3, 3} {
			wantRoom(t, q, attr, most, most >= made)
		}
	}
}

func wantRoom(t *testing.T, p api.Program, attr, most int, want bool) {
	t.Helper()
	l, e := fuse.Alike(p, attr, most)
	if is := e == api.OK; is != want || !is && e != api.ErrNodeLimit || len(l) != map[bool]int{true: p.Space[attr].Size}[want] {
		t.Errorf("Alike of %d, of at most %d nodes: %v, error %d", attr, most, l, e)
	}
}

// Each kind of attribute, asked last of all, so that what is known of it makes the most.
func TestAlikeOfEachKind(t *testing.T) {
	p := program(t, `allow a when addr in {10.0.0.0/8} and port in {80} and method in {GET} and path ~ "/a/**" and header "k" ~ "v*"; let x = addr in {11.0.0.0/8} or port in {81} or method in {PUT} or path ~ "/bbbb" or has "k";`)
	for attr, want := range [][]int{{0, 1, 0}, {0, 1, 0}, {0, 1, 0}, {0, 1, 0}, {0, 0, 2}} {
		for _, order := range [][]int{{0, 1, 2, 3, 4}, {4, 3, 2, 1, 0}, {2, 4, 0, 3, 1}, {3, 0, 4, 1, 2}, {1, 2, 4, 0, 3}} {
			q := turned(p, order)
			// Five nodes, one ahead of the other: what is known at a level makes those above it anew.
			level := slices.Index(order, attr)
			wantAlike(t, q, attr, want, 5+level)
			wantFused(t, q, mustFuse(t, q), 9)
		}
	}
}

// turned is a program of the same rules in another order, by tables.
func turned(p api.Program, order []int) api.Program {
	q := api.Program{Space: p.Space, Order: order}
	was, now := wordsOf(p), newWords(sizesOf(q))
	for _, x := range p.Rules {
		old, s := was.says(x.Root), make(table, now.points())
		for n := range s {
			classes, at := now.point(n), make([]int, len(order))
			for level, attr := range p.Order {
				at[level] = classes[slices.Index(order, attr)]
			}
			s[n] = old[was.number(at)]
		}
		x.Root = now.put(s)
		q.Rules = append(q.Rules, x)
	}
	q.Nodes = now.nodes
	return q
}

func mustFuse(t *testing.T, p api.Program) api.Program {
	t.Helper()
	q, e := fuse.Fuse(p, api.MaxNodes)
	if e != api.OK {
		t.Fatalf("Fuse: error %d; of %s", e, tellRules(p))
	}
	return q
}

func TestAtRandom(t *testing.T) {
	var lock sync.Mutex
	met := map[string]int{}
	inParallel(t, func(t *testing.T, r *rand.Rand) {
		for range 50 {
			p := randomProgram(t, r)
			made := wantByWords(t, p)
			lock.Lock()
			meet(met, p, made)
			lock.Unlock()
		}
	})
	for _, what := range []string{"of one class", "all alike", "none alike", "some alike", "most of 0", "most of 1", "most of 2", "most of 3", "most of 4", "several that make nodes"} {
		if met[what] < 8 {
			t.Errorf("%s: %d; of %v", what, met[what], met)
		}
	}
}

// meet counts what is to be met at random: which classes are alike, and which attribute it is that needs the most nodes.
func meet(met map[string]int, p api.Program, made []int) {
	behind := 0
	for attr, n := range made {
		classes, _ := wordsAlike(p, attr)
		switch own := len(slices.Compact(slices.Sorted(slices.Values(classes)))); {
		case len(classes) == 1:
			met["of one class"]++
		case own == 1:
			met["all alike"]++
		case own == len(classes):
			met["none alike"]++
		default:
			met["some alike"]++
		}
		if n > len(p.Nodes) {
			behind++
			if n == slices.Max(made) {
				met[fmt.Sprint("most of ", min(attr, 4))]++
			}
		}
	}
	if behind > 1 {
		met["several that make nodes"]++
	}
}

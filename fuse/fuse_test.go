package fuse_test

import (
	"slices"
	"testing"

	"lychgate/api"
)

func TestExamplesOfFuse(t *testing.T) {
	// None are alike: nothing changes.
	p := program(t, chapter)
	wantFused(t, p, p, 6)
	p = program(t, chapterFalse)
	q := mustFuse(t, p)
	var sizes []int
	for _, x := range q.Space {
		sizes = append(sizes, x.Size)
	}
	if !slices.Equal(sizes, []int{2, 2, 1, 1}) || tell(q.Rules) != tell(p.Rules) || tell(q.Order) != tell(p.Order) {
		t.Errorf("%v: %s", sizes, tell(q))
	}
	if tell(q.Nodes) != "[{Level:1 Kids:[0 1]} {Level:0 Kids:[2 1]} {Level:0 Kids:[0 1]}]" {
		t.Errorf("%v", q.Nodes)
	}
	wantFused(t, p, program(t, "allow a when addr in {10.0.0.0/8} or port in {80}; allow b when addr in {10.0.0.0/8};"), 3)
	wantNotFused(t, p, 8193, api.ErrArg)
}

func TestFuseWithoutRules(t *testing.T) {
	p := program(t, `let x = addr in {10.0.0.0/8} or port in {80, 90-95} or port in {91} or method in {A} or path ~ "/a/**" or header "k" ~ "a*" or has "k";`, `let y = has "l";`)
	want := program(t, "")
	want.Order = upTo(6)
	q := mustFuse(t, p)
	for i, x := range q.Space {
		if x.Size != 1 || x.Rest != 0 || len(x.Methods) != 0 {
			t.Errorf("attribute %d: %s", i, tell(x))
		}
		if i >= 4 {
			continue
		}
		want.Space[i].Size = 1
	}
	if q.Space[4].Name != "k" || q.Space[5].Name != "l" {
		t.Errorf("%s", tell(q.Space[4:]))
	}
	want.Space = append(want.Space, q.Space[4:]...)
	wantFused(t, p, want, 0)
	wantFused(t, program(t, "", ""), program(t, "", ""), 0)
	wantFused(t, program(t, "", "let a = port in {1};"), program(t, "", ""), 0)
}

// Tests that no rule asks leave nothing: the program is that of a source without them.
func TestFuseForgetsWhatIsNotAsked(t *testing.T) {
	for _, x := range []struct {
		full, bare []string
		made       int
	}{
		{[]string{"let x = port in {80, 443}; allow a when true;"}, []string{"allow a when true;"}, 0},
		{[]string{"allow a when port in {80} and false;"}, []string{"allow a when false;"}, 0},
		{[]string{"allow a when port in {80} or not port in {80};"}, []string{"allow a when true;"}, 0},
		{[]string{`allow a when path ~ "/a/**" or not path ~ "/a/**";`}, []string{"allow a when true;"}, 0},
		{[]string{"allow a when port in {80} or port in {81};"}, []string{"allow a when port in {80-81};"}, 1},
		{[]string{"allow a when port in {80-90} and not port in {85};"}, []string{"allow a when port in {80-84, 86-90};"}, 1},
		{[]string{"allow a when not port in {80};"}, []string{"let x = port in {80}; allow a when not x;"}, 1},
		{[]string{"allow a when addr in {10.0.0.0/8} or addr in {11.0.0.0/8};"}, []string{"allow a when addr in {10.0.0.0/7};"}, 1},
		{[]string{"allow a when method in {GET} or method in {A}; deny b when method in {PUT} and method in {B, PUT};"}, []string{"allow a when method in {A, GET}; deny b when method in {PUT};"}, 2},
		{[]string{`let x = path ~ "/b/*"; allow a when path ~ "/a/?" or path ~ "/a/*";`}, []string{`allow a when path ~ "/a/*";`}, 1},
		{[]string{`let x = has "k"; allow a when header "k" ~ "a*" or header "k" ~ "ab";`}, []string{`allow a when header "k" ~ "a*";`}, 1},
		{[]string{`allow a when header "k" ~ "a*" or has "k"; deny b when header "l" ~ "x" or header "l" ~ "y";`}, []string{`allow a when has "k"; deny b when header "l" ~ "[xy]";`}, 2},
		{[]string{"let x = port in {1} or method in {GET}; allow a when port in {80} and method in {PUT};"}, []string{"allow a when port in {80} and method in {PUT};"}, 3},
		{[]string{"allow a when port in {80}; let x = port in {81};", "let y = port in {82}; deny b when port in {80};"}, []string{"allow a when port in {80};", "deny b when port in {80};"}, 1},
		{[]string{"allow a when port in {80};", "deny b when port in {81}; let x = port in {82};"}, []string{"allow a when port in {80};", "deny b when port in {81};"}, 2},
		{[]string{"", "deny b when port in {81}; let x = port in {82};"}, []string{"", "deny b when port in {81};"}, 1},
	} {
		wantFused(t, program(t, x.full...), program(t, x.bare...), x.made)
	}
}

// By tables: the classes that become one, the nodes behind it.
func TestFuseByTables(t *testing.T) {
	for _, x := range []struct {
		order    []int
		policies []string
		cuts     string
		methods  string
		nodes    string
		made     int
	}{
		{portFirst(), []string{"+a 010/101/010"}, "[{0 0} {1 1} {2 0}]", "[{B 1}]", "[{2 [0 1]} {2 [1 0]} {1 [2 3]}]", 5},
		{methodFirst(), []string{"+a 010/101/010"}, "[{0 0} {1 1} {2 0}]", "[{B 1}]", "[{2 [0 1]} {2 [1 0]} {0 [2 3]}]", 5},
		{portFirst(), []string{"+a 110/110/001"}, "[{0 0} {2 1} {3 0}]", "[{C 1}]", "[{2 [1 0]} {2 [0 1]} {1 [2 3]}]", 5},
		{methodFirst(), []string{"+a 110/110/001"}, "[{0 0} {2 1} {3 0}]", "[{C 1}]", "[{2 [1 0]} {2 [0 1]} {0 [2 3]}]", 5},
		{portFirst(), []string{"+a 011/100/100"}, "[{0 0} {1 1} {3 0}]", "[{B 1} {C 1}]", "[{2 [0 1]} {2 [1 0]} {1 [2 3]}]", 5},
		{portFirst(), []string{"+a 100/010/001"}, "[{0 0} {1 1} {2 2} {3 0}]", "[{B 1} {C 2}]", "[{2 [1 0 0]} {2 [0 1 0]} {2 [0 0 1]} {1 [2 3 4]}]", 7},
		{portFirst(), []string{"+a 000/111/000, -b 010/010/010"}, "[{0 0} {1 1} {2 0}]", "[{B 1}]", "[{1 [0 1]} {2 [0 1]}]", 2},
		{portFirst(), []string{"+a 000/111/000", "-b 010/010/010"}, "[{0 0} {1 1} {2 0}]", "[{B 1}]", "[{1 [0 1]} {2 [0 1]}]", 2},
		{portFirst(), []string{"+a 000/111/000", "-b 000/000/111"}, "[{0 0} {1 1} {2 2} {3 0}]", "[]", "[{1 [0 1 0]} {1 [0 0 1]}]", 2},
		{portFirst(), []string{"+a 000/000/000, -b 111/111/111"}, "[{0 0}]", "[]", "[]", 0},
	} {
		p := ofTables(t, x.order, x.policies...)
		want := copyOf(p)
		q := mustFuse(t, p)
		// What is told of the space by hand; of the rest of it, that it stays.
		if got := tellShort(q.Space[1].Cuts); got != x.cuts {
			t.Errorf("%q: %s", x.policies, got)
		}
		if got := tellShort(q.Space[2].Methods); got != x.methods || q.Space[2].Rest != 0 {
			t.Errorf("%q: %s", x.policies, got)
		}
		if got := tellShort(q.Nodes); got != x.nodes {
			t.Errorf("%q: %s", x.policies, got)
		}
		want.Space[1], want.Space[2], want.Nodes = q.Space[1], q.Space[2], q.Nodes
		wantFused(t, p, want, x.made)
	}
}

// What is made of one attribute takes no room from another one.
func TestRoomOfFuse(t *testing.T) {
	// By turns over three levels: five nodes; two more of the method's classes, four of the header's.
	p := program(t, `let p = port in {80}; let g = method in {GET}; let k = has "k"; let x = p and not g or g and not p; allow a when x and not k or k and not x;`)
	for attr, made := range []int{5, 5, 7, 5, 9} {
		wantAlike(t, p, attr, upTo(p.Space[attr].Size), made)
	}
	wantFused(t, p, p, 9)
	// In the order of the levels turned round it is the port that has the least room, in others the method.
	wantFused(t, turned(p, []int{4, 3, 2, 1, 0}), turned(p, []int{4, 3, 2, 1, 0}), 9)
	for attr, made := range []int{5, 9, 7, 5, 5} {
		wantAlike(t, turned(p, []int{4, 3, 2, 1, 0}), attr, upTo(p.Space[attr].Size), made)
	}
	for attr, made := range []int{5, 7, 9, 5, 5} {
		wantAlike(t, turned(p, []int{4, 0, 1, 3, 2}), attr, upTo(p.Space[attr].Size), made)
	}
	wantFused(t, turned(p, []int{4, 0, 1, 3, 2}), turned(p, []int{4, 0, 1, 3, 2}), 9)
}

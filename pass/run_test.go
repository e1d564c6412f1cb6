package pass_test

import (
	"fmt"
	"math/rand"
	"slices"
	"sort"
	"strings"
	"sync"
	"testing"

	"lychgate/api"
	"lychgate/fuse"
	"lychgate/pass"
	"lychgate/prune"
)

// chapter is the chapter's program; rows has rules side by side, some of them dead.
const (
	chapter = "allow a when port in {80} and method in {GET}; deny b when port in {80};"
	rows    = "allow a when port in {1}; allow b when port in {2}; deny c when port in {2}; deny d when port in {2, 3};"
)

// names are the rules', each behind its policy.
func names(p api.Program) string {
	var l []string
	for _, x := range p.Rules {
		l = append(l, fmt.Sprint(x.Policy, x.Name))
	}
	return strings.Join(l, " ")
}

// counts are the attributes' classes.
func counts(p api.Program) []int { return sizesBy(p.Space, upTo(len(p.Space))) }

func TestExamplesOfRun(t *testing.T) {
	p := program(t, chapter)
	for _, x := range []struct {
		passes []int
		names  string
		sizes  []int
	}{
		{nil, "0a 0b", []int{1, 2, 2, 1}},
		{[]int{1}, "0b", []int{1, 2, 2, 1}},
		{[]int{2}, "0a 0b", []int{1, 2, 2, 1}},
		{[]int{3}, "0a 0b", []int{1, 2, 2, 1}},
		{[]int{1, 3}, "0b", []int{1, 2, 1, 1}},
		{[]int{3, 1}, "0b", []int{1, 2, 2, 1}},
		{[]int{3, 1, 3}, "0b", []int{1, 2, 1, 1}},
	} {
		q := mustRun(t, p, x.passes...)
		if names(q) != x.names || !slices.Equal(counts(q), x.sizes) {
			t.Errorf("by %v: %s, %v; want %s, %v", x.passes, names(q), counts(q), x.names, x.sizes)
		}
	}
	for _, passes := range [][]int{nil, {}} {
		wantRun(t, p, passes, 2, p)
		wantRun(t, p, passes, 0, p)
	}
	wantRun(t, p, []int{2}, 3, p)
	wantNotRun(t, p, []int{2}, 2, api.ErrNodeLimit)
	wantNotRun(t, p, []int{0}, 100, api.ErrArg)
	wantNotRun(t, p, []int{5}, 100, api.ErrArg)
}

// Passes are run in their order, each as often as it stands there.
func TestOrderOfPasses(t *testing.T) {
	dead := `allow b when addr in {10.0.0.0/8} and port in {80} and method in {GET}; allow c when addr in {10.0.0.0/8} and port in {80} and path ~ "/a";`
	for _, x := range []struct {
		source string
		passes []int
		want   string // the rules, the classes, the order, the nodes' number
	}{
		{rows, nil, "0a 0b 0c 0d [1 4 1 1] [0 1 2 3] 3"},
		{rows, []int{api.PassDead}, "0a 0c 0d [1 4 1 1] [0 1 2 3] 3"},
		{rows, []int{api.PassMerge}, "0a 0c [1 4 1 1] [0 1 2 3] 2"},
		{rows, []int{api.PassFuse}, "0a 0b 0c 0d [1 4 1 1] [0 1 2 3] 3"},
		{rows, []int{api.PassOrder}, "0a 0b 0c 0d [1 4 1 1] [0 1 2 3] 3"},
		{rows, []int{api.PassDead, api.PassMerge}, "0a 0c [1 4 1 1] [0 1 2 3] 2"},
		{rows, []int{api.PassMerge, api.PassFuse}, "0a 0c [1 4 1 1] [0 1 2 3] 2"},
		{rows, []int{api.PassDead, api.PassMerge, api.PassFuse}, "0a 0c [1 3 1 1] [0 1 2 3] 2"},
		{rows, []int{api.PassMerge, api.PassDead, api.PassFuse}, "0a 0c [1 4 1 1] [0 1 2 3] 2"},
		{rows, []int{api.PassDead, api.PassFuse, api.PassMerge}, "0a 0c [1 4 1 1] [0 1 2 3] 2"},
		{rows, []int{api.PassFuse, api.PassDead, api.PassMerge, api.PassFuse}, "0a 0c [1 3 1 1] [0 1 2 3] 2"},
		{better, nil, "0a [2 2 2 2 2 2] [0 1 2 3 4 5] 10"},
		{better, []int{api.PassOrder}, "0a [2 2 2 2 2 2] [5 0 1 2 3 4] 8"},
		{better, []int{api.PassOrder, api.PassOrder}, "0a [2 2 2 2 2 2] [5 4 0 1 2 3] 6"},
		{better, []int{api.PassOrder, api.PassFuse, api.PassDead, api.PassOrder, api.PassOrder}, "0a [2 2 2 2 2 2] [5 4 0 1 2 3] 6"},
		{better + " allow b when port in {80} and true;", []int{api.PassDead, api.PassOrder, api.PassMerge}, "0a [2 2 2 2 2 2] [5 0 1 2 3 4] 8"},
		// What is dead counts for the order, till it is taken away.
		{pairs + dead, []int{api.PassOrder}, "0a 0b 0c [2 2 2 2] [0 2 3 1] 7"},
		{pairs + dead, []int{api.PassOrder, api.PassDead}, "0a [2 2 2 2] [0 2 3 1] 4"},
		{pairs + dead, []int{api.PassDead, api.PassOrder}, "0a [2 2 2 2] [0 2 1 3] 4"},
	} {
		p := mustRun(t, program(t, x.source), x.passes...)
		if got := fmt.Sprintf("%s %v %v %d", names(p), counts(p), p.Order, len(p.Nodes)); got != x.want {
			t.Errorf("%s by %v: %s; want %s", x.source, x.passes, got, x.want)
		}
	}
}

// wordsRun is R2 by its words.
func wordsRun(p api.Program, passes []int, most int) (api.Program, api.Errno) {
	e := api.OK
	for i := 0; i < len(passes) && e == api.OK; i++ {
		switch passes[i] {
		case api.PassDead:
			p, e = prune.Dead(p, most)
		case api.PassMerge:
			p, e = prune.Merge(p, most)
		case api.PassFuse:
			p, e = fuse.Fuse(p, most)
		case api.PassOrder:
			p, e = pass.Order(p, most)
		}
	}
	return p, e
}

// wantByWords holds Run against the chapter's words, where there is room and where there is none; it answers how many nodes are enough.
func wantByWords(t *testing.T, p api.Program, passes []int) int {
	t.Helper()
	enough := sort.Search(4*len(p.Nodes)+4, func(most int) bool {
		_, e := wordsRun(p, passes, most)
		return e == api.OK
	})
	for most := max(0, enough-1); most < enough+2; most++ {
		want, e := wordsRun(p, passes, most)
		if e == api.OK {
			wantRun(t, p, passes, most, want)
		} else {
			wantNotRun(t, p, passes, most, api.ErrNodeLimit)
		}
	}
	want, _ := wordsRun(p, passes, api.MaxNodes)
	wantRun(t, p, passes, api.MaxNodes, want)
	if enough > 0 {
		wantNotRun(t, p, passes, 0, api.ErrNodeLimit)
	}
	return enough
}

// Each pass has as much room as the others; the first one that has too little is told, and none behind it is run.
func TestRoomOfRun(t *testing.T) {
	p := program(t, chapter)
	for _, x := range []struct {
		source string
		passes []int
		enough int
	}{
		{chapter, nil, 0},
		{chapter, []int{2}, 3},
		{chapter, []int{4}, 3},
		{chapter, []int{3}, 3},
		{chapter, []int{1}, 4}, // all but 80
		{chapter, []int{2, 1}, 4},
		{chapter, []int{4, 2, 3, 1}, 3}, // where the method is asked first there are two nodes: so there is room for a third one
		{rows, []int{2}, 4},             // 1 and 2
		{rows, []int{2, 2, 2}, 4},
		{rows, []int{1}, 8}, // all but 2 and 3; 1 to 3; all but these; all but 2; 3
		{rows, []int{1, 2}, 8},
		{rows, []int{2, 1}, 5}, // of two rules: all but 2 and 3; 1; 1 to 3
		{better, []int{4}, 10},
		{better, []int{4, 4, 4}, 10},
	} {
		if got := wantByWords(t, program(t, x.source), x.passes); got != x.enough {
			t.Errorf("%s by %v: %d nodes are enough; want %d", x.source, x.passes, got, x.enough)
		}
	}
	for most := range 3 {
		for _, passes := range [][]int{{1, 2, 3, 4}, {4, 4}, {3, 1}, {2, 1, 1, 1}} {
			wantNotRun(t, p, passes, most, api.ErrNodeLimit)
		}
	}
}

// By none it is the program, whatever there is room for.
func TestRunByNone(t *testing.T) {
	for _, sources := range [][]string{{""}, {"", ""}, {chapter}, {chapter, rows}, {pairs}, {better}} {
		p := program(t, sources...)
		for _, most := range []int{0, 1, 2, len(p.Nodes), api.MaxNodes} {
			wantRun(t, p, nil, most, p)
			wantRun(t, p, []int{}, most, p)
			wantRun(t, p, []int{1, 2, 3, 4}[:0], most, p)
		}
	}
	inParallel(t, func(t *testing.T, r *rand.Rand) {
		for range 10 {
			p := randomProgram(t, r)
			wantRun(t, p, nil, r.Intn(len(p.Nodes)+2), p)
		}
	})
}

func TestRunAtRandom(t *testing.T) {
	var lock sync.Mutex
	met := map[string]int{}
	inParallel(t, func(t *testing.T, r *rand.Rand) {
		for range 16 {
			p := randomProgram(t, r)
			passes := randomPasses(r, 6)
			enough := wantByWords(t, p, passes)
			_, first := wordsRun(p, passes[:min(1, len(passes))], max(0, enough-1))
			back := slices.Clone(passes)
			slices.Reverse(back)
			q, u := mustRun(t, p, passes...), mustRun(t, p, back...)
			lock.Lock()
			for what, is := range map[string]bool{
				"fewer rules":                len(q.Rules) < len(p.Rules),
				"fewer classes":              tell(counts(q)) != tell(counts(p)),
				"another order":              !slices.Equal(q.Order, p.Order),
				"no room for a later one":    enough > 0 && first == api.OK,
				"nothing changed":            tell(p) == tell(q),
				"the order of passes counts": tell(q) != tell(u),
			} {
				if is {
					met[what]++
				}
			}
			lock.Unlock()
		}
	})
	for _, what := range []string{"fewer rules", "fewer classes", "another order", "no room for a later one", "nothing changed", "the order of passes counts"} {
		if met[what] < 5 {
			t.Errorf("%s: %d; of %v", what, met[what], met)
		}
	}
}

package prune_test

import (
	"math/rand"
	"testing"

	"lychgate/api"
	"lychgate/prune"
)

// wordsMerge is B2 by its words: the answer, and how many nodes there are in the end.
func wordsMerge(p api.Program) (api.Program, int) {
	w := wordsOf(p)
	var l []api.Ruled
	for i, x := range p.Rules {
		if i == 0 || p.Rules[i-1].Policy != x.Policy || p.Rules[i-1].Effect != x.Effect {
			l = append(l, x)
			continue
		}
		last := &l[len(l)-1]
		last.Root = w.put(either(w.says(last.Root), w.says(x.Root)))
	}
	return wordsClose(p.Space, p.Order, w, l), len(w.nodes)
}

// wantMerge: policies by the classes of their rules, and what they become.
func wantMerge(t *testing.T, policies, merged []string) {
	t.Helper()
	p, want := ofClasses(t, policies...), ofClasses(t, merged...)
	byWords, made := wordsMerge(p)
	wantProgram(t, "the words", byWords, want)
	wantRoom(t, "Merge", prune.Merge, p, want, made)
}

func TestExampleOfMerge(t *testing.T) {
	wantMerge(t, []string{"+a 0, +b 1, -c 2, +d 0"}, []string{"+a 01, -c 2, +d 0"})
}

func TestMergeOfOnePolicy(t *testing.T) {
	for rules, merged := range map[string]string{
		"":                               "",
		"+a 0":                           "+a 0",
		"-a 0":                           "-a 0",
		"+a _":                           "+a _",
		"-a 012":                         "-a 012",
		"+a 0, -b 0":                     "+a 0, -b 0",
		"-a 0, +b 0, -c 0":               "-a 0, +b 0, -c 0",
		"+a 0, +b 0":                     "+a 0",
		"+b 0, +a 0":                     "+b 0",
		"+a 0, +a 1":                     "+a 01",
		"-a _, -b 0":                     "-a 0",
		"-a 0, -b _":                     "-a 0",
		"-a _, -b _":                     "-a _",
		"+a 012, +b 0":                   "+a 012",
		"+a 0, +b 012":                   "+a 012",
		"+a 01, +b 12":                   "+a 012",
		"+a 0, +b 1, +c 2":               "+a 012",
		"-c 2, -b 2, -a 1":               "-c 12",
		"-a 0, +b 1, +c 2":               "-a 0, +b 12",
		"-a 0, -b 1, +c 2":               "-a 01, +c 2",
		"-a 0, -b 1, +c 0, +d 2, -e 2":   "-a 01, +c 02, -e 2",
		"+a 0, -b 0, -c 1, -d 2, +e 1":   "+a 0, -b 012, +e 1",
		"+a 0, +b 1, -c 2, -d 2, +e 012": "+a 01, -c 2, +e 012",
	} {
		wantMerge(t, []string{rules}, []string{merged})
		// The same of the policy 1 alone.
		wantMerge(t, []string{"", rules}, []string{"", merged})
		// And of both, whatever stands at the end of the one and the beginning of the other.
		wantMerge(t, []string{rules, "+z 2, +y 1"}, []string{merged, "+z 12"})
		wantMerge(t, []string{rules, "-z 2, -y 1"}, []string{merged, "-z 12"})
		wantMerge(t, []string{"+z 2, +y 1", rules}, []string{"+z 12", merged})
		wantMerge(t, []string{"-z 2, -y 1", rules}, []string{"-z 12", merged})
		wantMerge(t, []string{rules, rules}, []string{merged, merged})
	}
}

// How many nodes there are, by hand: over three classes each set but none and all is one.
func TestRoomOfMerge(t *testing.T) {
	for rules, made := range map[string]int{
		"":                       0,
		"+a _, +b 012":           0,
		"+a 0":                   1,
		"+a 0, -b 1":             2,
		"+a 0, +b 0":             1,
		"+a 0, +b _":             1,
		"+a 0, +b 1":             3, // 01
		"+a 0, +b 12":            2,
		"+a 0, +b 1, +c 2":       4, // 01, though all of it is true in the end
		"+a 2, +b 1, +c 12":      3,
		"+a 0, +b 12, +c 1":      3, // true already
		"+a 0, +b 1, -c 2, -d 0": 5, // 01, 02
		"+a 0, +b 1, -c 1, -d 0": 3, // 01, once
	} {
		p := ofClasses(t, rules)
		want, byWords := wordsMerge(p)
		if byWords != made {
			t.Errorf("%q: %d nodes; want %d", rules, byWords, made)
		}
		wantRoom(t, rules, prune.Merge, p, want, made)
	}
}

func TestMergeAtRandom(t *testing.T) {
	inParallel(t, func(t *testing.T, r *rand.Rand) {
		var less, same, two, behind int
		for range 40 {
			p := randomProgram(t, r)
			want, made := wordsMerge(p)
			wantRoom(t, "Merge", prune.Merge, p, want, made)
			if len(want.Rules) == len(p.Rules) {
				same++
			} else {
				less++
			}
			if len(p.Rules) > 0 && p.Rules[0].Policy < p.Rules[len(p.Rules)-1].Policy {
				two++
			}
			if made > len(p.Nodes) {
				behind++
			}
		}
		if less < 15 || same < 2 || two < 6 || behind < 10 {
			t.Errorf("%d with rules put together, %d without, %d of two policies, %d that make nodes", less, same, two, behind)
		}
	})
}

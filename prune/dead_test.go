package prune_test

import (
	"math/rand"
	"testing"

	"lychgate/api"
	"lychgate/prune"
)

// done is a step of the call: what comes out is made, and stays.
func (w *words) done(s table) table {
	w.put(s)
	return s
}

// wordsDead is B1 by its words: the answer, and how many nodes there are in the end.
func wordsDead(p api.Program) (api.Program, int) {
	w := wordsOf(p)
	var stay []api.Ruled
	for policy := range 2 {
		d := w.none()
		for _, x := range p.Rules {
			if x.Policy == policy && x.Effect == api.ItemDeny {
				d = w.done(either(d, w.says(x.Root)))
			}
		}
		e, a := w.none(), d
		for _, x := range p.Rules {
			if x.Policy != policy {
				continue
			}
			root := w.says(x.Root)
			if x.Effect == api.ItemDeny {
				n := w.done(not(e))
				if isNone(w.done(both(root, n))) {
					continue
				}
				e = w.done(either(e, root))
			} else {
				n := w.done(not(a))
				if isNone(w.done(both(root, n))) {
					continue
				}
				a = w.done(either(a, root))
			}
			stay = append(stay, x)
		}
	}
	return wordsClose(p.Space, p.Order, w, stay), len(w.nodes)
}

// wantDead: policies by the classes of their rules, and what of them stays.
func wantDead(t *testing.T, policies, stay []string) {
	t.Helper()
	p, want := ofClasses(t, policies...), ofClasses(t, stay...)
	byWords, made := wordsDead(p)
	wantProgram(t, "the words", byWords, want)
	wantRoom(t, "Dead", prune.Dead, p, want, made)
}

func TestExamplesOfDead(t *testing.T) {
	wantDead(t, []string{"+a 0, -b 01, +c 1, +d 2, -e 1"}, []string{"-b 01, +d 2"})
	wantDead(t, []string{"-a 1, -b 01"}, []string{"-a 1, -b 01"})
}

func TestDeadOfOnePolicy(t *testing.T) {
	for rules, stay := range map[string]string{
		"":                     "",
		"+a 0":                 "+a 0",
		"-a 0":                 "-a 0",
		"+a 012":               "+a 012",
		"-a 012":               "-a 012",
		"+a _":                 "",
		"-a _":                 "",
		"+a _, -b _, +c _":     "",
		"+a 0, +b 0":           "+a 0",
		"-a 0, -b 0":           "-a 0",
		"+a 0, +b 0, +c 0":     "+a 0",
		"+a 0, +b 1":           "+a 0, +b 1",
		"+a 0, +b 01":          "+a 0, +b 01",
		"+a 01, +b 0":          "+a 01",
		"+a 0, +b 1, +c 01":    "+a 0, +b 1",
		"-a 0, -b 1, -c 01":    "-a 0, -b 1",
		"-a 0, -b 12, -c 012":  "-a 0, -b 12",
		"-a 01, -b 0, -c 1":    "-a 01",
		"-a 01, -b 12, -c 02":  "-a 01, -b 12",
		"+a 012, +b 0, -c _":   "+a 012",
		"+a 0, +a 1, +a 0":     "+a 0, +a 1",
		"-a 012, +b 0, +c 12":  "-a 012",
		"+a 0, +b 12, -c 012":  "-c 012",
		"+a 0, -b 0":           "-b 0",
		"-a 0, +b 0":           "-a 0",
		"+a 0, -b 1":           "+a 0, -b 1",
		"-a 1, +b 0":           "-a 1, +b 0",
		"+a 01, -b 0, +c 1":    "+a 01, -b 0",
		"+a 01, -b 0, +c 12":   "+a 01, -b 0, +c 12",
		"+a 0, -b 1, +c 01":    "+a 0, -b 1",
		"+a 1, -b 2, +c 12":    "+a 1, -b 2",
		"+a 1, +c 12, -b 2":    "+a 1, -b 2",
		"+a 012, -b 012, -c 0": "-b 012",
		// What goes is not there for those behind it: a rule that allows what is denied does not make another one go.
		"+a 01, -b 01, +c 012": "-b 01, +c 012",
		// A rule that allows outdoes none that denies, though it be ahead.
		"+a 012, -b 0":            "+a 012, -b 0",
		"-a 0, +b 012, -c 01":     "-a 0, +b 012, -c 01",
		"+a 0, -b 2, +c 1, -d 02": "-b 2, +c 1, -d 02",
	} {
		wantDead(t, []string{rules}, []string{stay})
		// The same of the policy 1 alone.
		wantDead(t, []string{"", rules}, []string{"", stay})
		// And of both, each by its own rules.
		wantDead(t, []string{rules, "+z 2, -y 1, +x 12"}, []string{stay, "+z 2, -y 1"})
		wantDead(t, []string{"+z 2, -y 1, +x 12", rules}, []string{"+z 2, -y 1", stay})
		wantDead(t, []string{rules, rules}, []string{stay, stay})
	}
}

func TestDeadKeepsPoliciesApart(t *testing.T) {
	for _, l := range [][]string{
		{"+a 0", "+a 0"},
		{"-a 0", "-a 0"},
		{"-a 012", "+b 0"},
		{"+b 0", "-a 012"},
		{"-a 012", "-b 0"},
		{"+a 012", "+b 1, -c 2"},
		{"-a 0, +b 1", "-c 1, +d 0"},
	} {
		wantDead(t, l, l)
	}
}

// How many nodes there are, by hand: over three classes each set but none and all is one.
func TestRoomOfDead(t *testing.T) {
	for rules, made := range map[string]int{
		"":                  0,
		"+a _":              0,
		"+a 012":            0,
		"-a 012":            0,
		"+a 0":              1, // nothing is met, so Not and Or are true, and the root
		"-a 0":              1,
		"+a 0, +b 0":        2, // 12 is Not of the first; there is no Or of what goes
		"-a 0, -b 0":        2,
		"+a 0, +b 1":        4, // 12 and 01: the last Or is made, too, though nobody needs it
		"-a 0, -b 1":        4, // 01 is D already
		"+a 01, +b 12":      3, // 2; all
		"-a 0, +b _":        2, // 12, though the root is false
		"-a 0, +b 012":      2, // 12
		"-a 0, -b 1, +c _":  5, // 01, 12, 2
		"+a 0, -b 0":        2, // 12
		"-a 012, +b 0":      1,
		"-a 012, -b 0":      1,
		"-a 01, -b 1, -c 0": 4, // 2
		"-a 0, -b 1, -c 2":  5, // 01 and 12; Not of 01 is there
	} {
		p := ofClasses(t, rules)
		want, byWords := wordsDead(p)
		if byWords != made {
			t.Errorf("%q: %d nodes; want %d", rules, byWords, made)
		}
		wantRoom(t, rules, prune.Dead, p, want, made)
	}
}

func TestDeadAtRandom(t *testing.T) {
	inParallel(t, func(t *testing.T, r *rand.Rand) {
		var less, same, two, behind int
		for range 40 {
			p := randomProgram(t, r)
			want, made := wordsDead(p)
			wantRoom(t, "Dead", prune.Dead, p, want, made)
			if len(want.Rules) == len(p.Rules) {
				same++
			} else {
				less++
			}
			if len(p.Rules) > 0 && p.Rules[0].Policy < p.Rules[len(p.Rules)-1].Policy {
				two++
			}
			if made > len(p.Nodes) {
				behind++
			}
		}
		if less < 15 || same < 2 || two < 6 || behind < 10 {
			t.Errorf("%d with rules that go, %d without, %d of two policies, %d that make nodes", less, same, two, behind)
		}
	})
}

package auto_test

import (
	"fmt"
	"math/rand"
	"slices"
	"strings"
	"testing"

	"lychgate/api"
	"lychgate/auto"
	"lychgate/glob"
)

// noughts are the columns of bytes that are all in the column 0.
var noughts = strings.Repeat("\x00", 256)

// columns are those of bytes of which the ones in the list are in the columns 1, 2 and so on, all others in the column 0.
func columns(list string) string {
	out := make([]byte, 256)
	for i := range len(list) {
		out[list[i]] = byte(i + 1)
	}
	return string(out)
}

// distinct has a column for each byte.
func distinct() string {
	out := make([]byte, 256)
	for b := range out {
		out[b] = byte(b)
	}
	return string(out)
}

// chain counts the bytes of a text up to one less than its number of states; the label 1 is that of the last state alone.
func chain(states int) api.Auto {
	a := api.Auto{Bytes: noughts}
	for s := range states {
		a.Next = append(a.Next, min(s+1, states-1))
		a.Out = append(a.Out, 0)
	}
	a.Out[states-1] = 1
	return a
}

// counter counts the bytes b of a text, and begins anew at some number; the labels are what it has counted.
func counter(b byte, states int) api.Auto {
	a := api.Auto{Bytes: columns(string([]byte{b}))}
	for s := range states {
		a.Next = append(a.Next, s, (s+1)%states)
		a.Out = append(a.Out, s)
	}
	return a
}

func clone(a api.Auto) api.Auto {
	return api.Auto{Bytes: a.Bytes, Next: slices.Clone(a.Next), Out: slices.Clone(a.Out)}
}

func same(a, b api.Auto) bool {
	return a.Bytes == b.Bytes && slices.Equal(a.Next, b.Next) && slices.Equal(a.Out, b.Out)
}

func isEmpty(a api.Auto) bool {
	return a.Bytes == "" && len(a.Next) == 0 && len(a.Out) == 0
}

// told is an automaton for people: whole, if it is small.
func told(a api.Auto) string {
	if len(a.Next) > 60 {
		return fmt.Sprintf("one of %d states, %d in Next", len(a.Out), len(a.Next))
	}
	return fmt.Sprintf("Bytes %q Next %v Out %v", a.Bytes, a.Next, a.Out)
}

func pieces(t *testing.T, pattern string) []api.Piece {
	t.Helper()
	l, e, _ := glob.Parse(pattern)
	if e != api.OK {
		t.Fatalf("%q is no pattern", pattern)
	}
	return l
}

func of(t *testing.T, pattern string) api.Auto {
	t.Helper()
	a, e := auto.Of(pieces(t, pattern))
	if e != api.OK {
		t.Fatalf("Of %q: error %d", pattern, e)
	}
	return a
}

func least(t *testing.T, a api.Auto) api.Auto {
	t.Helper()
	b, e := auto.Least(a)
	if e != api.OK {
		t.Fatalf("Least(%s): error %d", told(a), e)
	}
	return b
}

// What follows says the chapter's words one by one, as slowly as they are said.

func columnsByWords(a api.Auto) int {
	w := 0
	for b := range len(a.Bytes) {
		w = max(w, int(a.Bytes[b])+1)
	}
	return w
}

func mayBeByWords(a api.Auto) bool {
	if len(a.Bytes) != 256 || len(a.Out) == 0 || len(a.Out) > 65536 || len(a.Next) != len(a.Out)*columnsByWords(a) {
		return false
	}
	for _, s := range a.Next {
		if s < 0 || s >= len(a.Out) {
			return false
		}
	}
	for _, l := range a.Out {
		if l < 0 || l > 65535 {
			return false
		}
	}
	return true
}

// after asks of what may be alone: so there are as many columns as each state has elements in Next.
func after(a api.Auto, state int, b int) int {
	return a.Next[state*(len(a.Next)/len(a.Out))+int(a.Bytes[b])]
}

func labelByWords(a api.Auto, s string) int {
	state := 0
	for i := range len(s) {
		state = after(a, state, int(s[i]))
	}
	return a.Out[state]
}

// firstBytes has of each column that bytes have the first one.
func firstBytes(a api.Auto) []int {
	var out []int
	for b := range 256 {
		if strings.IndexByte(a.Bytes, a.Bytes[b]) == b {
			out = append(out, b)
		}
	}
	return out
}

// metByWords are the states that texts lead to, breadth first.
func metByWords(a api.Auto) []int {
	first := firstBytes(a)
	met := []int{0}
	for i := 0; i < len(met); i++ {
		for _, b := range first {
			if to := after(a, met[i], b); !slices.Contains(met, to) {
				met = append(met, to)
			}
		}
	}
	return met
}

// unlikeByWords has of each two states whether some text that follows has unlike labels.
func unlikeByWords(a api.Auto) [][]bool {
	n, first := len(a.Out), firstBytes(a)
	unlike := make([][]bool, n)
	for s := range n {
		unlike[s] = make([]bool, n)
		for t := range n {
			unlike[s][t] = a.Out[s] != a.Out[t]
		}
	}
	for changed := true; changed; {
		changed = false
		for s := range n {
			for t := range s {
				for _, b := range first {
					if !unlike[s][t] && unlike[after(a, s, b)][after(a, t, b)] {
						unlike[s][t], unlike[t][s], changed = true, true, true
					}
				}
			}
		}
	}
	return unlike
}

func rightByWords(a api.Auto) bool {
	if !mayBeByWords(a) || len(a.Out) > 256 {
		return false
	}
	unlike := unlikeByWords(a)
	for s := range a.Out {
		for t := range s {
			if !unlike[s][t] {
				return false
			}
		}
	}
	return columnsRightByWords(a) && slices.Equal(metByWords(a), upTo(len(a.Out)))
}

func upTo(n int) []int {
	out := make([]int, n)
	for i := range out {
		out[i] = i
	}
	return out
}

func columnsRightByWords(a api.Auto) bool {
	w, most := columnsByWords(a), -1
	for b := range 256 {
		if int(a.Bytes[b]) > most+1 {
			return false
		}
		most = max(most, int(a.Bytes[b]))
	}
	for c := range w {
		for d := range c {
			alike := true
			for s := range a.Out {
				alike = alike && a.Next[s*w+c] == a.Next[s*w+d]
			}
			if alike {
				return false
			}
		}
	}
	return true
}

// leastStates is how many states the least automaton with the same labels has.
func leastStates(a api.Auto) int {
	unlike := unlikeByWords(a)
	var apart []int
	for _, s := range metByWords(a) {
		if !slices.ContainsFunc(apart, func(t int) bool { return !unlike[s][t] }) {
			apart = append(apart, s)
		}
	}
	return len(apart)
}

// sameLabels: do both have the same label for each text? All pairs of states that a text leads to are asked.
func sameLabels(a, b api.Auto) bool {
	return labelled(a, b, func(x, y int) bool { return x == y })
}

// labelled: does it hold of the labels of two automata, for each text?
func labelled(a, b api.Auto, holds func(x, y int) bool) bool {
	met := map[[2]int]bool{{0, 0}: true}
	todo := [][2]int{{0, 0}}
	wa, wb := columnsByWords(a), columnsByWords(b)
	for len(todo) > 0 {
		s := todo[0]
		todo = todo[1:]
		if !holds(a.Out[s[0]], b.Out[s[1]]) {
			return false
		}
		for c := range 256 {
			to := [2]int{a.Next[s[0]*wa+int(a.Bytes[c])], b.Next[s[1]*wb+int(b.Bytes[c])]}
			if !met[to] {
				met[to] = true
				todo = append(todo, to)
			}
		}
	}
	return true
}

// texts are all of at most so many of some bytes, the LESS first (the bytes rise).
func texts(bytes string, most int) []string {
	out := []string{""}
	last := out
	for range most {
		var longer []string
		for _, s := range last {
			for i := range len(bytes) {
				longer = append(longer, s+bytes[i:i+1])
			}
		}
		out, last = append(out, longer...), longer
	}
	return out
}

// randomRaw is an automaton that may be: it may have states that nothing leads to, alike ones, columns that no byte has, alike ones.
func randomRaw(r *rand.Rand, states, width, labels int) api.Auto {
	bytes := make([]byte, 256)
	for b := range bytes {
		if r.Intn(2) == 0 {
			bytes[b] = byte(r.Intn(width))
		}
	}
	a := api.Auto{Bytes: string(bytes)}
	for range states {
		a.Out = append(a.Out, r.Intn(labels))
		for range columnsByWords(a) {
			a.Next = append(a.Next, r.Intn(states))
		}
	}
	return a
}

func randomRight(t *testing.T, r *rand.Rand, states, width, labels int) api.Auto {
	t.Helper()
	return least(t, randomRaw(r, states, width, labels))
}

// disguised says the same by more: each state and each column stands several times, in any order, beside states that nothing leads to.
func disguised(r *rand.Rand, a api.Auto) api.Auto {
	w := columnsByWords(a)
	states := mixed(r, len(a.Out), 3*len(a.Out)+1)
	columns := mixed(r, w, min(2*w+1, 256))
	states[0], states[slices.Index(states, 0)] = 0, states[0]
	bytes := make([]byte, 256)
	for b := range bytes {
		bytes[b] = byte(oneOf(r, columns, int(a.Bytes[b])))
	}
	out := api.Auto{Bytes: string(bytes)}
	for _, s := range states {
		for _, c := range columns[:columnsByWords(out)] {
			out.Next = append(out.Next, oneOf(r, states, a.Next[s*w+c]))
		}
		out.Out = append(out.Out, a.Out[s])
	}
	return out
}

// mixed has the numbers below n, and of them as many again as are lacking, in any order.
func mixed(r *rand.Rand, n, many int) []int {
	out := upTo(n)
	for len(out) < many {
		out = append(out, r.Intn(n))
	}
	r.Shuffle(len(out), func(i, j int) { out[i], out[j] = out[j], out[i] })
	return out
}

// oneOf is a place of n in a list.
func oneOf(r *rand.Rand, list []int, n int) int {
	for {
		if i := r.Intn(len(list)); list[i] == n {
			return i
		}
	}
}

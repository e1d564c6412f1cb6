package auto_test

import (
	"math/rand"
	"strings"
	"testing"

	"lychgate/api"
	"lychgate/auto"
)

// eachSmall gives all automata of so many states and columns with two labels, by several columns of bytes; columns that no byte has, too.
func eachSmall(states, width int, give func(api.Auto)) {
	layouts := []string{noughts}
	if width == 2 {
		layouts = []string{columns("a"), strings.Repeat("\x01", 256), strings.Repeat("\x01\x00", 128), strings.Repeat("\x00", 255) + "\x01"}
	}
	n := states * width
	count := 1
	for range n {
		count *= states
	}
	for code := range count << states {
		a := api.Auto{}
		for s := range states {
			a.Out = append(a.Out, code>>s&1)
		}
		rest := code >> states
		for range n {
			a.Next = append(a.Next, rest%states)
			rest /= states
		}
		for _, l := range layouts {
			a.Bytes = l
			give(a)
		}
	}
}

func TestRightOfAllSmall(t *testing.T) {
	rights := 0
	for states := 1; states <= 3; states++ {
		for width := 1; width <= 2; width++ {
			eachSmall(states, width, func(a api.Auto) {
				is := auto.Right(a)
				if is != rightByWords(a) {
					t.Fatalf("Right(%s): %v", told(a), is)
				}
				if is {
					rights++
				}
			})
		}
	}
	if rights < 100 {
		t.Errorf("only %d right ones", rights)
	}
}

func TestRightOfBroken(t *testing.T) {
	for name, a := range map[string]api.Auto{
		"nothing":                            {},
		"no states":                          {Bytes: noughts},
		"too few bytes":                      {Bytes: noughts[1:], Next: []int{0}, Out: []int{0}},
		"too many bytes":                     {Bytes: noughts + "\x00", Next: []int{0}, Out: []int{0}},
		"no such state":                      {Bytes: noughts, Next: []int{1}, Out: []int{0}},
		"a state below 0":                    {Bytes: noughts, Next: []int{-1}, Out: []int{0}},
		"a label below 0":                    {Bytes: noughts, Next: []int{0}, Out: []int{-1}},
		"a label above all":                  {Bytes: noughts, Next: []int{0}, Out: []int{65536}},
		"Next too long":                      {Bytes: noughts, Next: []int{0, 0}, Out: []int{0}},
		"Next too short":                     {Bytes: columns("a"), Next: []int{0, 1, 1}, Out: []int{0, 1}},
		"a state that nothing leads to":      {Bytes: noughts, Next: []int{0, 0}, Out: []int{0, 1}},
		"alike states":                       {Bytes: noughts, Next: []int{1, 0}, Out: []int{0, 0}},
		"alike states behind others":         {Bytes: columns("a"), Next: []int{1, 2, 1, 3, 2, 3, 3, 3}, Out: []int{0, 0, 0, 1}},
		"alike columns":                      {Bytes: columns("a"), Next: []int{1, 1, 0, 0}, Out: []int{0, 1}},
		"a column that no byte has":          {Bytes: strings.Repeat("\x01", 256), Next: []int{0, 1, 0, 0}, Out: []int{0, 1}},
		"a first column that is not 0":       {Bytes: "\x01" + noughts[1:], Next: []int{0, 1, 1, 0}, Out: []int{0, 1}},
		"a column ahead of a lower one":      {Bytes: "\x00\x02\x01" + noughts[3:], Next: []int{0, 1, 2, 1, 2, 0, 2, 0, 2}, Out: []int{0, 1, 2}},
		"a state met ahead of a lower one":   {Bytes: columns("a"), Next: []int{2, 1, 1, 1, 1, 1}, Out: []int{0, 1, 2}},
		"states numbered depth first":        {Bytes: columns("a"), Next: []int{1, 3, 2, 2, 2, 2, 0, 3}, Out: []int{0, 1, 2, 3}},
		"a loop of states with as many more": {Bytes: noughts, Next: []int{1, 2, 3, 0}, Out: []int{0, 1, 0, 1}},
	} {
		if auto.Right(a) || rightByWords(a) {
			t.Errorf("%s: right", name)
		}
	}
}

func TestRightOfWhole(t *testing.T) {
	for name, a := range map[string]api.Auto{
		"one state":                      {Bytes: noughts, Next: []int{0}, Out: []int{65535}},
		"two columns":                    {Bytes: columns("a"), Next: []int{0, 1, 1, 0}, Out: []int{1, 0}},
		"the last byte apart":            {Bytes: columns("\xff"), Next: []int{0, 1, 1, 0}, Out: []int{1, 0}},
		"the first byte apart":           {Bytes: "\x00" + strings.Repeat("\x01", 255), Next: []int{0, 1, 1, 0}, Out: []int{1, 0}},
		"three columns":                  {Bytes: "\x00\x01\x02" + noughts[3:], Next: []int{0, 1, 2, 1, 2, 0, 2, 0, 2}, Out: []int{0, 1, 2}},
		"as many states as there may be": chain(256),
		"a loop of 256":                  counter('a', 256),
	} {
		if !auto.Right(a) || !rightByWords(a) {
			t.Errorf("%s: not right", name)
		}
	}
	for _, a := range []api.Auto{chain(257), counter('a', 257)} {
		if auto.Right(a) {
			t.Errorf("257 states: right")
		}
	}
}

func TestRightOfAllColumns(t *testing.T) {
	a := api.Auto{Bytes: distinct()}
	for s := range 256 {
		for c := range 256 {
			a.Next = append(a.Next, (s+c)%256)
		}
		a.Out = append(a.Out, s)
	}
	if !auto.Right(a) {
		t.Errorf("256 states and columns: not right")
	}
	a.Next[5*256+7] = 11
	if !auto.Right(a) {
		t.Errorf("one led elsewhere: not right")
	}
	for s := range 256 {
		a.Next[s*256+255] = a.Next[s*256+254]
	}
	if auto.Right(a) {
		t.Errorf("the last two columns alike: right")
	}
}

// One change of a right one mostly makes another right one or none.
func TestRightOfChanged(t *testing.T) {
	r := rand.New(rand.NewSource(1))
	counts := map[bool]int{}
	for range 3000 {
		a := clone(randomRight(t, r, 1+r.Intn(9), 1+r.Intn(4), 1+r.Intn(3)))
		if !auto.Right(a) || !rightByWords(a) {
			t.Fatalf("Least gave %s: not right", told(a))
		}
		switch r.Intn(3) {
		case 0:
			a.Next[r.Intn(len(a.Next))] = r.Intn(len(a.Out)+2) - 1
		case 1:
			a.Out[r.Intn(len(a.Out))] = r.Intn(4)
		case 2:
			b := []byte(a.Bytes)
			b[r.Intn(256)] = byte(r.Intn(columnsByWords(a) + 1))
			a.Bytes = string(b)
		}
		is := auto.Right(a)
		if is != rightByWords(a) {
			t.Fatalf("Right(%s): %v", told(a), is)
		}
		counts[is]++
	}
	if counts[true] < 500 || counts[false] < 500 {
		t.Errorf("not enough of both: %v", counts)
	}
}

package auto_test

import (
	"math"
	"math/rand"
	"slices"
	"strings"
	"testing"

	"lychgate/api"
	"lychgate/auto"
)

func wantForm(t *testing.T, a api.Auto) api.Auto {
	t.Helper()
	b := least(t, a)
	if !rightByWords(b) || !auto.Right(b) {
		t.Fatalf("Least(%s): %s is not right", told(a), told(b))
	}
	if !sameLabels(a, b) {
		t.Fatalf("Least(%s): %s has other labels", told(a), told(b))
	}
	if !same(least(t, b), b) {
		t.Fatalf("Least of the right %s is another one", told(b))
	}
	return b
}

func TestLeastOfExamples(t *testing.T) {
	a, e := auto.Least(api.Auto{Bytes: noughts, Next: []int{1, 0}, Out: []int{5, 5}})
	if want := (api.Auto{Bytes: noughts, Next: []int{0}, Out: []int{5}}); e != api.OK || !same(a, want) {
		t.Errorf("two alike: %s, %d", told(a), e)
	}
	if a, e := auto.Least(api.Auto{Bytes: noughts, Next: []int{1, 2}, Out: []int{5, 5}}); e != api.ErrAutoForm || !isEmpty(a) {
		t.Errorf("no such state: %s, %d", told(a), e)
	}
}

func TestLeastOfAllSmall(t *testing.T) {
	for states := 1; states <= 3; states++ {
		for width := 1; width <= 2; width++ {
			eachSmall(states, width, func(a api.Auto) { wantForm(t, a) })
		}
	}
}

func TestLeastOfRandom(t *testing.T) {
	r := rand.New(rand.NewSource(2))
	for range 1500 {
		a := randomRaw(r, 1+r.Intn(12), 1+r.Intn(6), 1+r.Intn(3))
		b := wantForm(t, a)
		if n := leastStates(a); len(b.Out) != n {
			t.Fatalf("Least(%s): %d states, want %d", told(a), len(b.Out), n)
		}
	}
}

// Whatever says the same has the same form.
func TestLeastOfDisguised(t *testing.T) {
	r := rand.New(rand.NewSource(3))
	for i := range 600 {
		a := randomRight(t, r, 1+r.Intn(30), 1+r.Intn(5), 1+r.Intn(3))
		if i%3 == 0 {
			a = of(t, []string{"", "a", "/a/*.txt", "**/[a-c]?", "*a*b*", "[!/-9]**"}[r.Intn(6)])
		}
		d := disguised(r, a)
		if !sameLabels(a, d) {
			t.Fatalf("the disguise of %s has other labels", told(a))
		}
		if b := least(t, d); !same(a, b) {
			t.Fatalf("Least(%s): %s, want %s", told(d), told(b), told(a))
		}
	}
}

// Texts that tell states apart may be long.
func TestLeastOfLongLoops(t *testing.T) {
	for _, n := range []int{2, 3, 16, 100, 256} {
		loop := api.Auto{Bytes: noughts}
		for s := range 12 * n {
			loop.Next = append(loop.Next, (s+1)%(12*n))
			loop.Out = append(loop.Out, 0)
			if s%n == n-1 {
				loop.Out[s] = 7
			}
		}
		b := wantForm(t, loop)
		if len(b.Out) != n {
			t.Errorf("a loop of %d, twelve times: %d states", n, len(b.Out))
		}
	}
}

func TestLeastOfWhatMayNotBe(t *testing.T) {
	whole := api.Auto{Bytes: columns("a"), Next: []int{0, 1, 1, 0}, Out: []int{0, 1}}
	if b := least(t, whole); !same(b, whole) {
		t.Fatalf("Least(%s): %s", told(whole), told(b))
	}
	broken := map[string]func(*api.Auto){
		"no bytes":          func(a *api.Auto) { a.Bytes = "" },
		"255 bytes":         func(a *api.Auto) { a.Bytes = a.Bytes[:255] },
		"257 bytes":         func(a *api.Auto) { a.Bytes += "\x00" },
		"another column":    func(a *api.Auto) { a.Bytes = "\x02" + a.Bytes[1:] },
		"a column less":     func(a *api.Auto) { a.Bytes = noughts },
		"no states":         func(a *api.Auto) { a.Next, a.Out = nil, nil },
		"no labels":         func(a *api.Auto) { a.Out = nil },
		"no Next":           func(a *api.Auto) { a.Next = nil },
		"Next too short":    func(a *api.Auto) { a.Next = a.Next[:3] },
		"Next too long":     func(a *api.Auto) { a.Next = append(a.Next, 0) },
		"a row too few":     func(a *api.Auto) { a.Next = a.Next[:2] },
		"a row too many":    func(a *api.Auto) { a.Next = append(a.Next, 0, 0) },
		"a state below 0":   func(a *api.Auto) { a.Next[2] = -1 },
		"a state too high":  func(a *api.Auto) { a.Next[3] = 2 },
		"the highest state": func(a *api.Auto) { a.Next[0] = math.MaxInt },
		"the lowest state":  func(a *api.Auto) { a.Next[0] = math.MinInt },
		"a label below 0":   func(a *api.Auto) { a.Out[0] = -1 },
		"a label too high":  func(a *api.Auto) { a.Out[1] = 65536 },
		"the highest label": func(a *api.Auto) { a.Out[1] = math.MaxInt },
		"the lowest label":  func(a *api.Auto) { a.Out[1] = math.MinInt },
	}
	for name, change := range broken {
		a := clone(whole)
		change(&a)
		if b, e := auto.Least(a); e != api.ErrAutoForm || !isEmpty(b) {
			t.Errorf("%s: %s, error %d", name, told(b), e)
		}
		if auto.Right(a) {
			t.Errorf("%s: right", name)
		}
	}
}

// What is wrong where no text comes to is wrong, too.
func TestLeastOfWrongOutOfReach(t *testing.T) {
	for _, a := range []api.Auto{
		{Bytes: noughts, Next: []int{0, 2}, Out: []int{0, 0}},
		{Bytes: noughts, Next: []int{0, 0}, Out: []int{0, -1}},
		{Bytes: strings.Repeat("\x01", 256), Next: []int{1, 0}, Out: []int{0}},
	} {
		if b, e := auto.Least(a); e != api.ErrAutoForm || !isEmpty(b) {
			t.Errorf("Least(%s): %s, error %d", told(a), told(b), e)
		}
	}
}

func TestLeastAtTheLimits(t *testing.T) {
	if b := least(t, chain(256)); !same(b, chain(256)) {
		t.Errorf("256 states: %s", told(b))
	}
	for _, n := range []int{257, 258, 300, 5000, 65536} {
		if b, e := auto.Least(chain(n)); e != api.ErrNodeLimit || !isEmpty(b) {
			t.Errorf("%d states: error %d", n, e)
		}
	}
	if b, e := auto.Least(chain(65537)); e != api.ErrAutoForm || !isEmpty(b) {
		t.Errorf("65537 states: error %d", e)
	}
	for _, n := range []int{257, 65536} {
		if b, e := auto.Least(counter('a', n)); e != api.ErrNodeLimit || !isEmpty(b) {
			t.Errorf("%d labels: error %d", n, e)
		}
	}
}

// Only what texts come to counts.
func TestLeastOfMuchOutOfReach(t *testing.T) {
	a := counter('a', 65536)
	a.Next[1] = 0
	want := api.Auto{Bytes: noughts, Next: []int{0}, Out: []int{0}}
	if b := least(t, a); !same(b, want) {
		t.Errorf("no byte leads on: %s", told(b))
	}
	a = counter('a', 65536)
	a.Bytes = strings.Repeat("\x02", 256)
	a.Next = nil
	for s := range 65536 {
		a.Next = append(a.Next, (s+1)%65536, s, s)
	}
	if b := least(t, a); !same(b, want) {
		t.Errorf("no byte has the column that leads on: %s", told(b))
	}
	a = chain(65536)
	a.Next[255] = 255
	a.Out[255] = 1
	if b := least(t, a); !same(b, chain(256)) {
		t.Errorf("a chain cut off at 256: %d states", len(b.Out))
	}
}

func TestLeastOfGreat(t *testing.T) {
	a := api.Auto{Bytes: columns("ab")}
	for s := range 65536 {
		a.Next = append(a.Next, (s+256)%65536, s&^255|(s+1)&255, s*7&0xff00|(s+255)&255)
		a.Out = append(a.Out, min(s&255, 1))
	}
	b := least(t, a)
	var want api.Auto
	want.Bytes = a.Bytes
	// Counted up by a and down by b: 1, 255, 2, 254 and so on are met, in this order.
	met := []int{0}
	for n := 1; n <= 128; n++ {
		met = append(met, n)
		if n < 128 {
			met = append(met, 256-n)
		}
	}
	for _, n := range met {
		want.Next = append(want.Next, slices.Index(met, n), slices.Index(met, (n+1)%256), slices.Index(met, (n+255)%256))
		want.Out = append(want.Out, min(n, 1))
	}
	if !same(b, want) {
		t.Errorf("65536 states that are 256: %d states", len(b.Out))
	}
}

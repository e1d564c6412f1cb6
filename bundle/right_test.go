package bundle_test

import (
	"fmt"
	"math/rand"
	"slices"
	"sync"
	"testing"

	"lychgate/api"
	"lychgate/bundle"
)

// several has an attribute of each kind, each of more than one class but the path. Its nodes: 2: has; 3: GET or has; 4: the port 80, then 3, else 2; 5: 10/8, then 4, else 3.
const several = `allow a when addr in {10.0.0.0/8} and port in {80} and method in {GET}; allow b when not addr in {10.0.0.0/8} and method in {GET}; allow c when has "k";`

// wantRight looks at what all calls say that take an image, and at Decode of its text.
func wantRight(t *testing.T, what string, i api.Image, want bool) {
	t.Helper()
	if got := bundle.Right(i); got != want || wordsRight(i) != want {
		t.Fatalf("%s: %v; by the words %v; of %s", what, got, wordsRight(i), tellNodes(i))
	}
	s, e := bundle.Encode(i)
	if want && (s != wordsText(i) || e != api.OK) || !want && (s != "" || e != api.ErrArg) {
		t.Fatalf("%s: Encode: %d bytes, error %d", what, len(s), e)
	}
	r := api.Request{Method: "GET", Path: "/"}
	if want {
		wantJudge(t, i, r, wordsJudge(t, i, r))
	} else {
		wantNotJudged(t, i, r)
	}
	wantDecode(t, what, wordsText(i))
}

// wantWrong is about the image of several with something else in it.
func wantWrong(t *testing.T, what string, change func(i *api.Image)) {
	t.Helper()
	i := image(t, several)
	wantRight(t, what+": ahead of it", i, true)
	change(&i)
	wantRight(t, what, i, false)
}

func TestSeveral(t *testing.T) {
	want := []api.Node{node(4, 0, 1), node(2, 2, 1), node(1, 2, 3), node(0, 3, 4)}
	if i := image(t, several); tell(i.Nodes) != tell(want) || i.Root != 5 || tell(sizesBy(i.Space, i.Order)) != "[2 2 2 1 2]" {
		t.Fatal(tellNodes(i))
	}
}

func TestWrongSpaces(t *testing.T) {
	wantWrong(t, "nothing", func(i *api.Image) { *i = api.Image{} })
	wantWrong(t, "no space", func(i *api.Image) { i.Space = nil })
	wantWrong(t, "neither space nor order", func(i *api.Image) { i.Space, i.Order = nil, nil })
	wantWrong(t, "an attribute too few", func(i *api.Image) { i.Space = i.Space[:4] })
	wantWrong(t, "an attribute and its place too few", func(i *api.Image) { i.Space, i.Order = i.Space[:4], i.Order[:4] })
	wantWrong(t, "attributes in another order", func(i *api.Image) { i.Space[0], i.Space[1] = i.Space[1], i.Space[0] })
	wantWrong(t, "a header twice", func(i *api.Image) {
		i.Space = append(i.Space, i.Space[4])
		i.Order = append(i.Order, 5)
	})
	wantWrong(t, "an attribute that has what its kind has not", func(i *api.Image) { i.Space[1].Name = "k" })
	wantWrong(t, "a rest that may not be", func(i *api.Image) { i.Space[4].Rest = 1 })
	for _, n := range append(farNumbers(), 0, 1, 3, 256, 257, 258) {
		wantWrong(t, fmt.Sprint("the size ", n), func(i *api.Image) { i.Space[1].Size = n })
		wantWrong(t, fmt.Sprint("the sizes ", n), func(i *api.Image) {
			for k := range i.Space {
				i.Space[k].Size = n
			}
		})
		wantWrong(t, fmt.Sprint("the kind ", n), func(i *api.Image) { i.Space[3].Kind = n })
	}
	wantWrong(t, "no kind", func(i *api.Image) { i.Space[4].Kind = 6 })
	// Without nodes, too.
	i := image(t, "")
	wantRight(t, "no rules", i, true)
	i.Space[1].Cuts[0].From = 1
	wantRight(t, "no rules, and wrong cuts", i, false)
}

func TestWrongOrders(t *testing.T) {
	wantWrong(t, "no order", func(i *api.Image) { i.Order = nil })
	wantWrong(t, "a place too few", func(i *api.Image) { i.Order = i.Order[:4] })
	wantWrong(t, "a place too many", func(i *api.Image) { i.Order = append(i.Order, 5) })
	wantWrong(t, "a place again behind all", func(i *api.Image) { i.Order = append(i.Order, 0) })
	wantWrong(t, "a place twice", func(i *api.Image) { i.Order[0] = 1 })
	wantWrong(t, "levels that others' nodes have", func(i *api.Image) { i.Order[2], i.Order[3] = 3, 2 })
	for _, n := range append(farNumbers(), 5, 12, 255, 256) {
		wantWrong(t, fmt.Sprint("the place ", n), func(i *api.Image) { i.Order[3] = n })
		wantWrong(t, fmt.Sprint("the first place ", n), func(i *api.Image) { i.Order[0] = n })
	}
	// Attributes of one size may change places: it is another image, but a right one.
	i := image(t, several)
	i.Order = []int{4, 2, 0, 3, 1}
	wantRight(t, "another order", i, true)
}

func TestWrongNodes(t *testing.T) {
	wantWrong(t, "no nodes", func(i *api.Image) { i.Nodes = nil })
	wantWrong(t, "a node too few", func(i *api.Image) { i.Nodes = i.Nodes[:3] })
	wantWrong(t, "a node too few at the front", func(i *api.Image) { i.Nodes = i.Nodes[1:] })
	wantWrong(t, "a node that nobody leads to", func(i *api.Image) {
		i.Nodes = append(i.Nodes, node(0, 0, 1))
	})
	wantWrong(t, "a node that nobody leads to, as the root", func(i *api.Image) {
		i.Nodes = append(i.Nodes, node(0, 0, 1))
		i.Root = 6
	})
	wantWrong(t, "a node twice", func(i *api.Image) {
		i.Nodes = append(i.Nodes, node(0, 3, 4))
		i.Root = 6
	})
	wantWrong(t, "a node twice, as one ahead", func(i *api.Image) { i.Nodes[2] = i.Nodes[1] })
	wantWrong(t, "a node twice, both with those that lead to them", func(i *api.Image) {
		i.Nodes = []api.Node{node(4, 0, 1), node(4, 0, 1), node(2, 2, 1), node(1, 3, 4), node(0, 4, 5)}
		i.Root = 6
	})
	wantWrong(t, "a node that leads to one and the same", func(i *api.Image) { i.Nodes[1].Kids = []int{2, 2} })
	wantWrong(t, "a node of one class", func(i *api.Image) { i.Nodes[0] = node(3, 1) })
	wantWrong(t, "kids too few", func(i *api.Image) { i.Nodes[0].Kids = []int{1} })
	wantWrong(t, "no kids", func(i *api.Image) { i.Nodes[0].Kids = nil })
	wantWrong(t, "kids too many", func(i *api.Image) { i.Nodes[0].Kids = []int{0, 1, 1} })
	wantWrong(t, "a node that leads to itself", func(i *api.Image) { i.Nodes[1].Kids[0] = 3 })
	wantWrong(t, "a node that leads to one behind it", func(i *api.Image) { i.Nodes[2].Kids[1] = 5 })
	wantWrong(t, "a node that leads to its own level", func(i *api.Image) { i.Nodes[2].Level = 0 })
	wantWrong(t, "a node that leads upwards", func(i *api.Image) { i.Nodes[3].Level = 3 })
	for _, n := range append(farNumbers(), 5, 8193) {
		wantWrong(t, fmt.Sprint("the kid ", n), func(i *api.Image) { i.Nodes[0].Kids[1] = n })
		wantWrong(t, fmt.Sprint("the level ", n), func(i *api.Image) { i.Nodes[0].Level = n })
	}
}

// The nodes stand where those that they lead to do, but not where post-order has them.
func TestNodesInAnotherOrder(t *testing.T) {
	i := image(t, `allow a when method in {GET} and path ~ "/a" or method in {PUT} and path ~ "/b" or method in {A};`)
	if want := []api.Node{node(3, 0, 1, 0), node(3, 0, 0, 1), node(2, 1, 0, 2, 3)}; tell(i.Nodes) != tell(want) {
		t.Fatal(tellNodes(i))
	}
	wantRight(t, "by rising classes", i, true)
	i.Nodes[0], i.Nodes[1], i.Nodes[2].Kids = i.Nodes[1], i.Nodes[0], []int{1, 0, 3, 2}
	wantRight(t, "by falling classes", i, false)
	i.Nodes[2].Kids = []int{1, 0, 2, 3}
	wantRight(t, "another function", i, true)
	wantWrong(t, "a kid's kid behind what it leads to", func(i *api.Image) {
		// 2: has; 3: GET or has; then what the last two lead to changes places.
		i.Nodes[0], i.Nodes[1] = node(2, 3, 1), node(4, 0, 1)
	})
}

func TestWrongRoots(t *testing.T) {
	for _, n := range append(farNumbers(), 0, 1, 2, 3, 4, 6, 7, 8193) {
		wantWrong(t, fmt.Sprint("the root ", n), func(i *api.Image) { i.Root = n })
		i := image(t, "")
		if i.Root = n; n > 1 || n < 0 {
			wantRight(t, fmt.Sprint("no nodes, the root ", n), i, false)
		} else {
			wantRight(t, fmt.Sprint("no nodes, the root ", n), i, true)
		}
	}
	i := image(t, "allow a when port in {80};")
	i.Root = 1
	wantRight(t, "the root true, with one node", i, false)
	i.Nodes = []api.Node{}
	wantRight(t, "empty lists", i, true)
}

// Changes at random to right images, against the chapter's words.
func TestRightAtRandom(t *testing.T) {
	var lock sync.Mutex
	met := map[bool]int{}
	inParallel(t, func(t *testing.T, r *rand.Rand) {
		for range 8 {
			i := randomImage(t, r)
			wantRight(t, "at random", i, true)
			for range 12 {
				j := copyOf(i)
				for range 1 + r.Intn(2) {
					change(r, &j)
				}
				want := wordsRight(j)
				wantRight(t, "changed", j, want)
				lock.Lock()
				met[want]++
				lock.Unlock()
			}
		}
	})
	if met[true] < 40 || met[false] < 300 {
		t.Errorf("%v", met)
	}
}

// change is one that may leave an image right.
func change(r *rand.Rand, i *api.Image) {
	if len(i.Nodes) == 0 {
		i.Root = r.Intn(4)
		return
	}
	k := r.Intn(len(i.Nodes))
	kids := i.Nodes[k].Kids
	switch r.Intn(8) {
	case 0:
		if len(kids) > 0 {
			kids[r.Intn(len(kids))] = r.Intn(k + 3)
		}
	case 1:
		i.Nodes[k].Level = r.Intn(len(i.Order) + 1)
	case 2:
		i.Root = r.Intn(len(i.Nodes) + 3)
	case 3:
		i.Nodes = slices.Insert(i.Nodes, k, i.Nodes[r.Intn(len(i.Nodes))])
	case 4:
		i.Nodes = i.Nodes[:k]
	case 5, 6:
		at, to := r.Intn(len(i.Order)), r.Intn(len(i.Order))
		i.Order[at], i.Order[to] = i.Order[to], i.Order[at]
	case 7:
		i.Space[r.Intn(len(i.Space))].Size += r.Intn(3) - 1
	}
}

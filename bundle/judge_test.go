package bundle_test

import (
	"fmt"
	"math/rand"
	"slices"
	"strings"
	"sync"
	"testing"

	"lychgate/api"
	"lychgate/bundle"
	"lychgate/lower"
)

func TestJudgeOfOneNode(t *testing.T) {
	i := image(t, "allow a when method in {GET};")
	wantJudge(t, i, asked(t, "GET / 0.0.0.0:0\n\n"), api.Allow)
	wantJudge(t, i, asked(t, "PUT / 0.0.0.0:0\n\n"), api.Deny)
	i.Nodes[0].Kids = []int{1, 0}
	wantJudge(t, i, asked(t, "GET / 0.0.0.0:0\n\n"), api.Deny)
	wantJudge(t, i, asked(t, "PUT / 0.0.0.0:0\n\n"), api.Allow)
}

func TestJudgeWithoutNodes(t *testing.T) {
	i := image(t, "")
	for _, s := range []string{"GET / 0.0.0.0:0\n\n", "A /a/b 255.255.255.255:65535\nk:v\n\n"} {
		i.Root = 0
		wantJudge(t, i, asked(t, s), api.Deny)
		i.Root = 1
		wantJudge(t, i, asked(t, s), api.Allow)
	}
}

func TestJudge(t *testing.T) {
	i := image(t, several)
	for s, want := range map[string]int{
		"GET / 10.1.2.3:80\n\n":        api.Allow,
		"GET / 10.1.2.3:81\n\n":        api.Deny,
		"PUT / 10.1.2.3:80\n\n":        api.Deny,
		"GET / 11.0.0.0:81\n\n":        api.Allow,
		"GET / 9.255.255.255:0\n\n":    api.Allow,
		"PUT /x 11.0.0.0:80\n\n":       api.Deny,
		"PUT /x 11.0.0.0:80\nK: \n\n":  api.Allow,
		"PUT / 10.0.0.0:1\nk:v\n\n":    api.Allow,
		"PUT / 10.0.0.0:1\nkk:v\n\n":   api.Deny,
		"PUT / 10.0.0.0:1\nj:\nl:\n\n": api.Deny,
	} {
		wantJudge(t, i, asked(t, s), want)
	}
}

// A level asks what stands at its place in the order.
func TestJudgeByTheOrder(t *testing.T) {
	i := image(t, several)
	r := asked(t, "GET / 10.1.2.3:81\n\n")
	wantJudge(t, i, r, api.Deny)
	i.Order = []int{1, 0, 2, 3, 4} // of the port 80, and not 10/8
	wantJudge(t, i, r, api.Allow)
	wantJudge(t, i, asked(t, "GET / 1.1.2.3:80\n\n"), api.Deny)
	wantJudge(t, i, asked(t, "GET / 1.1.2.3:81\n\n"), api.Allow)
	wantJudge(t, i, asked(t, "GET / 10.1.2.3:80\n\n"), api.Allow)
}

// wrongRequests are some that layer 7 has as none.
func wrongRequests() map[string]func(r *api.Request) {
	return map[string]func(r *api.Request){
		"nothing":                 func(r *api.Request) { *r = api.Request{} },
		"no method":               func(r *api.Request) { r.Method = "" },
		"small letters":           func(r *api.Request) { r.Method = "get" },
		"a method of 17 letters":  func(r *api.Request) { r.Method = strings.Repeat("A", 17) },
		"no path":                 func(r *api.Request) { r.Path = "" },
		"a path that is not done": func(r *api.Request) { r.Path = "/a/" },
		"an address below 0":      func(r *api.Request) { r.Addr = -1 },
		"an address too great":    func(r *api.Request) { r.Addr = 1 << 32 },
		"a port below 0":          func(r *api.Request) { r.Port = -1 },
		"a port too great":        func(r *api.Request) { r.Port = 65536 },
		"a great letter":          func(r *api.Request) { r.Headers = []api.Field{{Name: "K"}} },
		"a header twice":          func(r *api.Request) { r.Headers = slices.Repeat([]api.Field{{Name: "k"}}, 2) },
		"headers that fall":       func(r *api.Request) { r.Headers = []api.Field{{Name: "l"}, {Name: "k"}} },
		"a value with a blank":    func(r *api.Request) { r.Headers = []api.Field{{Name: "k", Value: " "}} },
		"65 headers": func(r *api.Request) {
			for n := range 65 {
				r.Headers = append(r.Headers, api.Field{Name: fmt.Sprintf("k%02d", n)})
			}
		},
	}
}

func TestJudgeOfNoRequest(t *testing.T) {
	good := api.Request{Method: "GET", Path: "/"}
	wrong := image(t, several)
	wrong.Root = 0
	for what, change := range wrongRequests() {
		r := good
		change(&r)
		for _, i := range []api.Image{image(t, several), image(t, ""), image(t, "allow a when true;"), wrong, {}} {
			if v, e := bundle.Judge(i, r); v != 0 || e != api.ErrArg {
				t.Errorf("%s: %d, error %d", what, v, e)
			}
		}
	}
	wantNotJudged(t, wrong, good)
	wantNotJudged(t, api.Image{}, good)
	wantJudge(t, image(t, several), good, api.Allow)
}

// Against the chapter's words, and against what layer 17 says of the program.
func TestJudgeAtRandom(t *testing.T) {
	var lock sync.Mutex
	met := map[int]int{}
	inParallel(t, func(t *testing.T, r *rand.Rand) {
		for range 12 {
			i, p := randomImage(t, r), randomProgram(t, r)
			j := sealed(t, p)
			for range 6 {
				q := pick(r, randomRequest(r), leastOf(t, r, i.Space))
				want := wordsJudge(t, i, q)
				wantJudge(t, i, q, want)
				u := pick(r, randomRequest(r), leastOf(t, r, p.Space))
				said, e := lower.Judge(p, 0, u)
				if e != api.OK {
					t.Fatalf("error %d", e)
				}
				wantJudge(t, j, u, said)
				lock.Lock()
				met[want]++
				met[said]++
				lock.Unlock()
			}
		}
	})
	if met[api.Allow] < 200 || met[api.Deny] < 300 {
		t.Errorf("%v", met)
	}
}

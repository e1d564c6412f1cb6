package sidecar_test

import (
	"fmt"
	"math/rand"
	"strings"
	"testing"

	"lychgate/api"
	"lychgate/bundle"
	"lychgate/sidecar"
)

const asked = "GET / 1.2.3.4:80\n\n"

func TestNewHasNoBundle(t *testing.T) {
	s := sidecar.New()
	wantVersion(t, s, 0)
	wantEval(t, s, asked, api.Deny)
	wantNoRequest(t, s, "GET")
	wantNoBundle(t, s, "x", "x")
	wantVersion(t, s, 0)
	wantEval(t, s, asked, api.Deny)
}

func TestNewIsAnotherOneEachTime(t *testing.T) {
	one, two := sidecar.New(), sidecar.New()
	if one == nil || two == nil || one == two {
		t.Fatal("not two sidecars")
	}
	wantLoad(t, one, bundleOf(t, "allow a when true;"), 1)
	wantVersion(t, two, 0)
	wantEval(t, two, asked, api.Deny)
	wantEval(t, sidecar.New(), asked, api.Deny)
	wantLoad(t, two, bundleOf(t, "allow a when port in {81};"), 1)
	wantEval(t, one, asked, api.Allow)
	wantEval(t, two, asked, api.Deny)
}

func TestLoad(t *testing.T) {
	all := bundleOf(t, "allow a when true;")
	s := loaded(t, all)
	wantEval(t, s, asked, api.Allow)
	wantNoBundle(t, s, "without the last byte", all[:len(all)-1])
	wantEval(t, s, asked, api.Allow)
	wantLoad(t, s, all, 2)
	wantEval(t, s, asked, api.Allow)
}

// The image stands in the place of what there was: nothing of that is left.
func TestLoadTakesTheOldOnesPlace(t *testing.T) {
	s := loaded(t, bundleOf(t, "allow a when true;"), bundleOf(t, "allow a when method in {GET};"))
	wantEval(t, s, asked, api.Allow)
	wantEval(t, s, "PUT / 1.2.3.4:80\n\n", api.Deny)
	wantLoad(t, s, bundleOf(t, "allow a when method in {PUT};"), 3)
	wantEval(t, s, asked, api.Deny)
	wantEval(t, s, "PUT / 1.2.3.4:80\n\n", api.Allow)
	wantLoad(t, s, bundleOf(t, ""), 4)
	wantEval(t, s, "PUT / 1.2.3.4:80\n\n", api.Deny)
	wantLoad(t, s, bundleOf(t, several), 5)
	wantEval(t, s, "GET /x 10.2.3.4:80\n\n", api.Allow)
	wantEval(t, s, "PUT /a/%62/.. 1.2.3.4:0\nK: xy\n\n", api.Deny) // it is /a
	wantEval(t, s, "PUT /a/%62/.. 1.2.3.4:0\nK: xy\nL:\n\n", api.Deny)
	wantEval(t, s, "PUT /a/%62 1.2.3.4:0\nK: xy\n\n", api.Allow)
	wantEval(t, s, "PUT /a/%62 1.2.3.4:0\nK: xy\nL:\n\n", api.Deny)
	wantLoad(t, s, bundleOf(t, "deny a when true;"), 6)
	wantEval(t, s, "PUT /a/%62 1.2.3.4:0\nK: xy\n\n", api.Deny)
}

// Each one that is taken counts, also the same again, and none that is refused.
func TestVersionCountsWhatWasTaken(t *testing.T) {
	one, two := bundleOf(t, "allow a when true;"), bundleOf(t, several)
	s := sidecar.New()
	for n := 1; n <= 30; n++ {
		wantLoad(t, s, []string{one, one, two}[n%3], n)
		wantNoBundle(t, s, "nothing", "")
		wantNoBundle(t, s, "a byte more", two+"\x00")
		s.Eval(asked)
		s.Eval("")
		wantVersion(t, s, n)
	}
}

// Where a bundle stands for Deny of all, it was taken all the same.
func TestLoadOfABundleThatDeniesAll(t *testing.T) {
	for _, source := range []string{"", "allow a when false;", "deny a when true;", "let a = true;", "allow a when true; deny b when true;"} {
		s := loaded(t, bundleOf(t, source))
		wantEval(t, s, asked, api.Deny)
		wantNoBundle(t, s, "x", "x")
		wantVersion(t, s, 1)
	}
}

// wrongBundles are some bytes that are none.
func wrongBundles(b string) map[string]string {
	return map[string]string{
		"nothing":                        "",
		"a nought":                       "\x00",
		"a head":                         bundleHead,
		"a head and its check":           checked(bundleHead),
		"a source":                       several,
		"a request":                      asked,
		"without the last byte":          b[:len(b)-1],
		"without the first one":          b[1:],
		"half of it":                     b[:len(b)/2],
		"no check":                       body(b),
		"a byte more":                    b + "\x00",
		"a byte ahead":                   "\x00" + b,
		"a check more":                   checked(b),
		"twice":                          b + b,
		"a byte more ahead of the check": checked(body(b) + "\x00"),
		"a 2 in the place of the 1":      checked(bundleHead[:4] + "\x02" + body(b)[5:]),
		"another letter":                 checked("l" + body(b)[1:]),
		"another check":                  body(b) + "\x00\x00\x00\x00",
		"a root that is none":            checked(b[:len(b)-6] + "\xff\xff"),
		"many noughts":                   strings.Repeat("\x00", 1<<16),
	}
}

// What is none leaves all as it was, whatever it was.
func TestLoadOfNoBundle(t *testing.T) {
	fresh, all, some := sidecar.New(), loaded(t, bundleOf(t, "allow a when true;")), loaded(t, bundleOf(t, ""), bundleOf(t, "allow a when port in {80};"))
	for _, source := range []string{"", "allow a when true;", several} {
		for what, b := range wrongBundles(bundleOf(t, source)) {
			for k, s := range []*sidecar.Sidecar{fresh, all, some} {
				wantNoBundle(t, s, what, b)
				wantVersion(t, s, k)
				wantEval(t, s, asked, []int{api.Deny, api.Allow, api.Allow}[k])
				wantEval(t, s, "GET / 1.2.3.4:81\n\n", []int{api.Deny, api.Allow, api.Deny}[k])
				wantNoRequest(t, s, "GET")
			}
		}
	}
}

// Any image that is right is taken, also one that no policy is compiled into.
func TestLoadOfAnImageOfNoPolicy(t *testing.T) {
	i, e := bundle.Decode(bundleOf(t, several))
	if e != api.OK {
		t.Fatalf("error %d", e)
	}
	i.Nodes, i.Root = nil, 1
	s := loaded(t, encoded(t, i))
	wantEval(t, s, asked, api.Allow)
	wantEval(t, s, "GET / 1.2.3.4:80\nl:\n\n", api.Allow)
	// The highest level asks the address, the others ask what is left.
	i.Order = []int{5, 4, 3, 2, 1, 0}
	i.Nodes, i.Root = []api.Node{{Level: 5, Kids: []int{1, 0}}}, 2
	wantLoad(t, s, encoded(t, i), 2)
	wantEval(t, s, "GET / 10.0.0.0:80\nl:\n\n", api.Deny)
	wantEval(t, s, "GET / 9.255.255.255:80\nl:\n\n", api.Allow)
}

// A byte of a bundle is changed, and the check is right: it is taken just if layer 21 reads it, and judges so.
func TestLoadOfChangedBundles(t *testing.T) {
	inParallel(t, func(t *testing.T, r *rand.Rand) {
		b := body(bundleOf(t, "allow a when addr in {10.0.0.0/8} and port in {80} and method in {GET}; allow b when not addr in {10.0.0.0/8} and method in {GET};"))
		s := loaded(t, checked(b))
		taken := checked(b)
		for range 150 {
			at := pick(r, r.Intn(len(b)), len(b)-1-r.Intn(40))
			c := checked(b[:at] + string([]byte{pick(r, byte(r.Intn(256)), byte(r.Intn(4)))}) + b[at+1:])
			was := s.Version()
			if _, e := bundle.Decode(c); e == api.OK {
				wantLoad(t, s, c, was+1)
				taken = c
			} else {
				wantNoBundle(t, s, fmt.Sprint("a byte at ", at), c)
			}
			raw := randomText(r)
			if v, e := loaded(t, taken).Eval(raw); e == api.OK {
				wantEval(t, s, raw, v)
			}
		}
		if s.Version() < 5 {
			t.Errorf("%d bundles", s.Version())
		}
	})
}

// Any bytes, as many as may be refused.
func TestLoadOfAnyBytes(t *testing.T) {
	inParallel(t, func(t *testing.T, r *rand.Rand) {
		s := loaded(t, bundleOf(t, "allow a when true;"))
		for range 2000 {
			b := make([]byte, r.Intn(80))
			for k := range b {
				b[k] = pick(r, byte(r.Intn(256)), byte(r.Intn(6)))
			}
			any := pick(r, "", bundleHead, bundleHead+"\x04\x01") + string(b)
			wantNoBundle(t, s, "any bytes", any)
			wantNoBundle(t, s, "any bytes and their check", checked(any))
		}
		wantEval(t, s, asked, api.Allow)
	})
}

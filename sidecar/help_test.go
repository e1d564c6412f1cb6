package sidecar_test

import (
	"fmt"
	"hash/crc32"
	"math/rand"
	"strings"
	"testing"

	"lychgate/api"
	"lychgate/bundle"
	"lychgate/check"
	"lychgate/lower"
	"lychgate/pass"
	"lychgate/request"
	"lychgate/sidecar"
	"lychgate/verdict"
)

// several asks all that a request has.
const several = `allow a when addr in {10.0.0.0/8} and port in {80} and method in {GET}; allow b when path ~ "/a/**" and header "k" ~ "x*"; deny c when has "l";`

// accepted is a source's policy.
func accepted(t *testing.T, s string) api.Policy {
	t.Helper()
	p, e, at := check.Accept(s)
	if e != api.OK {
		t.Fatalf("%s: error %d at %d", s, e, at)
	}
	return p
}

// bundleOf is the bytes of a source's bundle, behind some passes.
func bundleOf(t *testing.T, source string, passes ...int) string {
	t.Helper()
	s, is := roomFor(t, accepted(t, source), passes)
	if !is {
		t.Fatalf("%s: no room", source)
	}
	return s
}

// roomFor is a policy's bundle; false, if there is no room for it.
func roomFor(t *testing.T, l api.Policy, passes []int) (string, bool) {
	t.Helper()
	noRoom := func(what string, e api.Errno) bool {
		if e != api.OK && e != api.ErrNodeLimit {
			t.Fatalf("%s: error %d", what, e)
		}
		return e != api.OK
	}
	p, e := lower.Compile([]api.Policy{l}, api.MaxNodes)
	if noRoom("Compile", e) {
		return "", false
	}
	if p, e = pass.Run(p, passes, api.MaxNodes); noRoom("Run", e) {
		return "", false
	}
	i, e := bundle.Seal(p, api.MaxNodes)
	if noRoom("Seal", e) {
		return "", false
	}
	return encoded(t, i), true
}

// encoded is the text of an image.
func encoded(t *testing.T, i api.Image) string {
	t.Helper()
	s, e := bundle.Encode(i)
	if e != api.OK {
		t.Fatalf("Encode: error %d", e)
	}
	return s
}

// loaded is a sidecar that has taken some bundles.
func loaded(t *testing.T, bundles ...string) *sidecar.Sidecar {
	t.Helper()
	s := sidecar.New()
	for n, b := range bundles {
		wantLoad(t, s, b, n+1)
	}
	return s
}

// checked has a check behind it, the lowest byte first.
func checked(s string) string {
	n := crc32.ChecksumIEEE([]byte(s))
	return s + string([]byte{byte(n), byte(n >> 8), byte(n >> 16), byte(n >> 24)})
}

// body is a text without its check.
func body(s string) string { return s[:len(s)-4] }

// short is the front of a text, to be told.
func short(s string) string { return fmt.Sprintf("%q of %d bytes", s[:min(len(s), 200)], len(s)) }

func wantVersion(t *testing.T, s *sidecar.Sidecar, want int) {
	t.Helper()
	if got := s.Version(); got != want {
		t.Fatalf("Version: %d, want %d", got, want)
	}
}

// wantLoad: a bundle is taken, and is the one of that number.
func wantLoad(t *testing.T, s *sidecar.Sidecar, b string, version int) {
	t.Helper()
	if e := s.Load(b); e != api.OK {
		t.Fatalf("Load: error %d", e)
	}
	wantVersion(t, s, version)
}

// wantNoBundle: what is none is refused, and none more was taken.
func wantNoBundle(t *testing.T, s *sidecar.Sidecar, what, b string) {
	t.Helper()
	was := s.Version()
	if e := s.Load(b); e != api.ErrBundleForm {
		t.Fatalf("%s: error %d", what, e)
	}
	wantVersion(t, s, was)
}

func wantEval(t *testing.T, s *sidecar.Sidecar, raw string, want int) {
	t.Helper()
	if v, e := s.Eval(raw); v != want || e != api.OK {
		t.Fatalf("%s: %d, error %d; want %d", short(raw), v, e, want)
	}
}

func wantNoRequest(t *testing.T, s *sidecar.Sidecar, raw string) {
	t.Helper()
	if v, e := s.Eval(raw); v != 0 || e != api.ErrRequestForm {
		t.Fatalf("%s: %d, error %d", short(raw), v, e)
	}
}

// said is what a sidecar by the chapter's words says of a request's text, if it has taken that policy last (nil: none).
func said(t *testing.T, l *api.Policy, raw string) (int, api.Errno) {
	t.Helper()
	r, e := request.Decode(raw)
	if e != api.OK {
		return 0, api.ErrRequestForm
	}
	if l == nil {
		return api.Deny, api.OK
	}
	v, _, e := verdict.Judge(*l, r)
	if e != api.OK {
		t.Fatalf("%q: error %d", raw, e)
	}
	return v, api.OK
}

// wantSays holds a sidecar against the words.
func wantSays(t *testing.T, s *sidecar.Sidecar, l *api.Policy, raw string) (int, api.Errno) {
	t.Helper()
	v, e := s.Eval(raw)
	if want, f := said(t, l, raw); v != want || e != f {
		t.Fatalf("%s: %d, error %d; want %d, error %d", short(raw), v, e, want, f)
	}
	return v, e
}

// wrongRequests are no request's texts.
func wrongRequests() []string {
	return []string{
		"", "\n", "\n\n", "GET", "GET\n\n", "GET /\n\n", "GET / 1.2.3.4\n\n", "GET / 1.2.3.4:\n\n", "GET / 1.2.3.4:80", "GET / 1.2.3.4:80\n", "GET / 1.2.3.4:80\n\n\n", "GET / 1.2.3.4:80\n\n ", "GET / 1.2.3.4:80\n\nGET / 1.2.3.4:80\n\n",
		" GET / 1.2.3.4:80\n\n", "get / 1.2.3.4:80\n\n", "G3T / 1.2.3.4:80\n\n", " / 1.2.3.4:80\n\n", strings.Repeat("A", 17) + " / 1.2.3.4:80\n\n",
		"GET  1.2.3.4:80\n\n", "GET a 1.2.3.4:80\n\n", "GET /.. 1.2.3.4:80\n\n", "GET /a/../.. 1.2.3.4:80\n\n", "GET /%2 1.2.3.4:80\n\n", "GET /%2g 1.2.3.4:80\n\n", "GET /a?b 1.2.3.4:80\n\n", "GET  / 1.2.3.4:80\n\n",
		"GET / 1.2.3:80\n\n", "GET / 1.2.3.256:80\n\n", "GET / 01.2.3.4:80\n\n", "GET / 1.2.3.4:080\n\n", "GET / 1.2.3.4:65536\n\n", "GET / 1.2.3.4:-1\n\n", "GET / 1.2.3.4:4294967376\n\n", "GET / 1.2.3.4 :80\n\n",
		"GET / 1.2.3.4:80\nk\n\n", "GET / 1.2.3.4:80\n:v\n\n", "GET / 1.2.3.4:80\nk_:v\n\n", "GET / 1.2.3.4:80\nk :v\n\n", "GET / 1.2.3.4:80\nk:\tv\n\n", "GET / 1.2.3.4:80\nk:\x7f\n\n", "GET / 1.2.3.4:80\nk:\xc3\xa9\n\n", "GET / 1.2.3.4:80\nk:v\n", "GET / 1.2.3.4:80\r\n\r\n", "GET / 1.2.3.4:80\n" + strings.Repeat("k", 33) + ":\n\n", "GET / 1.2.3.4:80\n" + strings.Repeat("k:\n", 65) + "\n",
		bundleHead, "\x00", "\xff\xfe",
	}
}

// bundleHead is how a bundle's text begins.
const bundleHead = "LYCH\x01"

func pick[T any](r *rand.Rand, l ...T) T { return l[r.Intn(len(l))] }

// randomCond is a condition of tests that randomText tells from one another.
func randomCond(r *rand.Rand, deep int) string {
	if deep == 0 || r.Intn(3) == 0 {
		return pick(r,
			"addr in {10.0.0.0/8}", "addr in {10.1.0.0/16, 11.0.0.0/8}", "addr in {0.0.0.0}", "port in {80}", "port in {80-90, 0}", "port in {2-65535}", "method in {GET}", "method in {A, PUT}", "method in {POST}",
			`path ~ "/a/*"`, `path ~ "/b*"`, `path ~ "/a/**"`, `path ~ "**b"`, `path ~ "/?"`, `has "k"`, `has "b"`, `header "k" ~ "a*"`, `header "k" ~ "*y"`, `header "l" ~ "x?"`, `header "l" ~ ""`, "true", "false")
	}
	if r.Intn(4) == 0 {
		return "not (" + randomCond(r, deep-1) + ")"
	}
	var l []string
	for range 2 + r.Intn(2) {
		l = append(l, "("+randomCond(r, deep-1)+")")
	}
	return strings.Join(l, pick(r, " and ", " or "))
}

func randomSource(r *rand.Rand) string {
	out := "let same = " + randomCond(r, 2) + ";"
	for n := range 1 + r.Intn(4) {
		out += fmt.Sprintf("%s r%d when %s%s;", pick(r, "allow", "allow", "deny"), n, randomCond(r, 3), pick(r, "", " and not same", " or same"))
	}
	return out
}

func randomPasses(r *rand.Rand) []int {
	var out []int
	for range r.Intn(4) {
		out = append(out, 1+r.Intn(4))
	}
	return out
}

// randomText is a request, mostly not written in its one form.
func randomText(r *rand.Rand) string {
	out := pick(r, "A", "GET", "PUT", "POST") + " " +
		pick(r, "/", "//", "/a", "/%61", "/b/", "/a/b", "/a/./b", "/x/../a/b/c", "/a/b/c/..", "/bbbb", "/%2f", "/%62%62") + " " +
		pick(r, "0.0.0.0", "10.0.0.0", "10.0.0.5", "10.1.0.0", "10.255.255.255", "11.0.0.0", "12.0.0.0", "255.255.255.255") + ":" +
		pick(r, "0", "1", "2", "3", "79", "80", "81", "90", "91", "65535") + "\n"
	for _, name := range []string{"b", "k", "K", "L", "l"} {
		if r.Intn(3) == 0 {
			out += name + ":" + pick(r, "", " ", "a", " ab", "x ", " xy ", "y") + "\n"
		}
	}
	return out + "\n"
}

// randomWrong is a request's text with a byte of it changed, put in or taken out: mostly none.
func randomWrong(r *rand.Rand) string {
	s := randomText(r)
	at := r.Intn(len(s))
	return s[:at] + pick(r, "", " ", "\n", ":", "/", "%", "..", "a", "\x00", "9", s[at:at+1]+s[at:at+1]) + s[at+1:]
}

// inParallel runs a test with several seeds; all have ended behind it.
func inParallel(t *testing.T, run func(t *testing.T, r *rand.Rand)) {
	t.Run("seeds", func(t *testing.T) {
		for seed := range 6 {
			t.Run(fmt.Sprint(seed), func(t *testing.T) {
				t.Parallel()
				run(t, rand.New(rand.NewSource(int64(seed)+220)))
			})
		}
	})
}

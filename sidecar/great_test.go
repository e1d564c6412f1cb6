package sidecar_test

import (
	"fmt"
	"strings"
	"testing"

	"lychgate/api"
	"lychgate/sidecar"
)

// There is no end to how many bundles are taken.
func TestManyBundles(t *testing.T) {
	one, two := bundleOf(t, "allow a when true;"), bundleOf(t, "")
	s := sidecar.New()
	for n := range 700 { // more than a byte, and more than a mesh has versions
		if e := s.Load([]string{one, two}[n%2]); e != api.OK || s.Version() != n+1 {
			t.Fatalf("%d: error %d, version %d", n, e, s.Version())
		}
	}
	wantEval(t, s, asked, api.Deny)
	wantLoad(t, s, one, 701)
	wantEval(t, s, asked, api.Allow)
}

// A path and a value may be as long as they like.
func TestLongRequests(t *testing.T) {
	s := loaded(t, bundleOf(t, `allow a when path ~ "/a/**/z"; deny b when header "k" ~ "**x";`))
	long := strings.Repeat("/a", 1<<18)
	wantEval(t, s, "GET "+long+"/z 1.2.3.4:80\n\n", api.Allow)
	wantEval(t, s, "GET "+long+"/zz 1.2.3.4:80\n\n", api.Deny)
	wantEval(t, s, "GET "+long+"/z"+strings.Repeat("/.", 1<<16)+" 1.2.3.4:80\n\n", api.Allow)
	wantEval(t, s, "GET /a/b/z 1.2.3.4:80\nk:"+long+"y\n\n", api.Allow)
	wantEval(t, s, "GET /a/b/z 1.2.3.4:80\nk:"+long+"x"+strings.Repeat(" ", 1<<16)+"\n\n", api.Deny)
	wantNoRequest(t, s, "GET "+long+strings.Repeat("/..", 1<<18+1)+" 1.2.3.4:80\n\n")
	wantNoRequest(t, s, "GET "+long+"\x00 1.2.3.4:80\n\n")
	wantNoRequest(t, s, strings.Repeat("A", 1<<20))
}

// As many headers as may be, and one more.
func TestAsManyHeadersAsMayBe(t *testing.T) {
	s := loaded(t, bundleOf(t, `allow a when has "k63"; deny b when has "k64";`))
	text := func(many int) string {
		out := "GET / 1.2.3.4:80\n"
		for n := range many {
			out += fmt.Sprintf("k%02d:\n", n)
		}
		return out + "\n"
	}
	wantEval(t, s, text(63), api.Deny)
	wantEval(t, s, text(64), api.Allow)
	wantNoRequest(t, s, text(65))
}

// Long bytes that say nothing are refused, and end.
func TestLongBytesAreRefused(t *testing.T) {
	s := loaded(t, bundleOf(t, "allow a when true;"))
	for what, b := range map[string]string{
		"noughts":       strings.Repeat("\x00", 1<<20),
		"heads":         strings.Repeat(bundleHead, 1<<18),
		"no attributes": bundleHead + "\xff" + strings.Repeat("\x09\x00", 1<<18),
		"fewer rows":    bundleHead + "\x04\x01\x00\xff\xff\xff\xff" + strings.Repeat("\x00", 1<<20),
	} {
		wantNoBundle(t, s, what, b)
		wantNoBundle(t, s, what+", and the check", checked(b))
	}
	wantEval(t, s, asked, api.Allow)
}

// A policy with as many rules and headers as it may have.
func TestAGreatPolicy(t *testing.T) {
	source := ""
	for n := range api.MaxItems {
		source += fmt.Sprintf("%s r%d when port in {%d}", []string{"allow", "deny"}[n%2], n, 100+n%60)
		if n < 4 {
			source += fmt.Sprintf(` and has "k%d"`, n)
		}
		source += ";"
	}
	l := accepted(t, source)
	b, is := roomFor(t, l, []int{1, 2, 3, 4})
	if !is {
		t.Fatal("no room")
	}
	s := loaded(t, b)
	for n := 98; n < 164; n++ {
		for _, headers := range []string{"", "k0:\n", "K1:\nk2:v\n", "k0:\nk3:\n"} {
			wantSays(t, s, &l, fmt.Sprintf("GET / 1.2.3.4:%d\n%s\n", n, headers))
		}
	}
}

package request_test

import (
	"math/rand"
	"strconv"
	"strings"
	"testing"

	"lychgate/api"
	"lychgate/request"
)

// checkDecode holds Decode against the chapter's words.
func checkDecode(t *testing.T, s string) {
	t.Helper()
	r, e := request.Decode(s)
	want, is := wordsDecode(s)
	if is && (!same(r, want) || e != api.OK) {
		t.Fatalf("%s: %s %d, not %s", short(s), told(r), e, told(want))
	}
	if !is && (!isZero(r) || e != api.ErrRequestForm) {
		t.Fatalf("%s: %s %d, though it is none", short(s), told(r), e)
	}
}

func TestDecodeExamples(t *testing.T) {
	r, e := request.Decode("GET /a/../b%7e%2f/./ 1.2.3.4:80\nHost: x \nHOST:y\n\n")
	want := api.Request{Method: "GET", Path: "/b~%2F", Addr: 16909060, Port: 80, Headers: []api.Field{{Name: "host", Value: "x,y"}}}
	if !same(r, want) || e != api.OK {
		t.Errorf("%s %d", told(r), e)
	}
	for value, lines := range map[string]string{"": "a:   \n", ",": "a:\na:\n", ",,": "a:\nA: , \n", ", ,": "a:  , , \n", "x,,y,x": "a:x\nA:\na: y \nA:x\n", "b:c ,:": "a: b:c ,:\n", "z,a": "a:z\na:a\n"} {
		r, e := request.Decode("GET / 1.2.3.4:80\n" + lines + "\n")
		if e != api.OK || len(r.Headers) != 1 || r.Headers[0] != (api.Field{Name: "a", Value: value}) {
			t.Errorf("%q: %s %d", lines, told(r), e)
		}
	}
	r, e = request.Decode("PUT / 0.0.0.0:0\nb:1\nC:2\na-:3\nB:4\na:5\n0:6\n\n")
	want = api.Request{Method: "PUT", Path: "/", Headers: []api.Field{{Name: "0", Value: "6"}, {Name: "a", Value: "5"}, {Name: "a-", Value: "3"}, {Name: "b", Value: "1,4"}, {Name: "c", Value: "2"}}}
	if !same(r, want) || e != api.OK {
		t.Errorf("%s %d", told(r), e)
	}
}

func TestDecodeRefuses(t *testing.T) {
	const first = "GET / 1.2.3.4:80\n"
	for _, s := range []string{
		"", "\n", "\n\n", "GET", "GET / 1.2.3.4:80", first, first + "a:b\n", first + "a:b", first + "\n\n", first + "\nx", first + "\n" + first + "\n", "\n" + first + "\n",
		"get / 1.2.3.4:80\n\n", "GEt / 1.2.3.4:80\n\n", "G3T / 1.2.3.4:80\n\n", " / 1.2.3.4:80\n\n", "/ 1.2.3.4:80\n\n", "GET 1.2.3.4:80\n\n", "GET  1.2.3.4:80\n\n", "GET / /a 1.2.3.4:80\n\n", "GET  / 1.2.3.4:80\n\n", "GET /  1.2.3.4:80\n\n", " GET / 1.2.3.4:80\n\n", "GET\t/ 1.2.3.4:80\n\n",
		"GET /.. 1.2.3.4:80\n\n", "GET a 1.2.3.4:80\n\n", "GET /? 1.2.3.4:80\n\n", "GET /%2 1.2.3.4:80\n\n",
		"GET / 1.2.3.4:080\n\n", "GET / 1.2.3.4:65536\n\n", "GET / 1.2.3.4:00\n\n", "GET / 1.2.3.4:\n\n", "GET / 1.2.3.4\n\n", "GET / 1.2.3.4:-1\n\n", "GET / 1.2.3.4:+1\n\n", "GET / 1.2.3.4:99999\n\n", "GET / 1.2.3.4:18446744073709551617\n\n", "GET / 1.2.3.4:8_0\n\n", "GET / 1.2.3.4:80 \n\n", "GET / 1.2.3.4: 80\n\n", "GET / 1.2.3.4:80:80\n\n", "GET / 1.2.3.4:80\r\n\n", "GET / 1.2.3.4:0x1\n\n",
		"GET / :80\n\n", "GET / 1.2.3:80\n\n", "GET / 1.2.3.256:80\n\n", "GET / 01.2.3.4:80\n\n", "GET / 1.2.3.4/32:80\n\n", "GET / ::1:80\n\n",
		first + "a\n\n", first + ":b\n\n", first + "a b:c\n\n", first + " a:b\n\n", first + "a :b\n\n", first + "a_:b\n\n", first + "é:b\n\n", first + "a:\tb\n\n", first + "a:b\r\n\n", first + "a:\x7f\n\n", first + "a:\x1f\n\n", first + "a:\x80\n\n", first + "a:é\n\n", first + "a:\x00\n\n", first + "a:b\n \n\n", first + " \n", first + "a:b\n c\n\n",
	} {
		if r, e := request.Decode(s); !isZero(r) || e != api.ErrRequestForm {
			t.Errorf("%q: %s %d", s, told(r), e)
		}
		checkDecode(t, s)
	}
}

func TestDecodeLimits(t *testing.T) {
	for n := range 40 {
		checkDecode(t, strings.Repeat("M", n)+" / 1.2.3.4:80\n\n")
		checkDecode(t, "GET / 1.2.3.4:80\n"+strings.Repeat("n", n)+":\n\n")
	}
	for n := range 80 {
		alike := strings.Repeat("a:\n", n)
		unlike, mixed := "", ""
		for i := range n {
			unlike += "h" + strconv.Itoa(i) + ":" + strconv.Itoa(i) + "\n"
			mixed += "h" + strconv.Itoa(i*i%5) + ":" + strconv.Itoa(n-i) + "\n"
		}
		for _, lines := range []string{alike, unlike, mixed} {
			s := "GET / 1.2.3.4:80\n" + lines + "\n"
			checkDecode(t, s)
			if _, e := request.Decode(s); (e == api.OK) != (n <= 64) {
				t.Errorf("%d lines: %d", n, e)
			}
		}
	}
	for n := range 110000 {
		r, e := request.Decode("A / 0.0.0.0:" + strconv.Itoa(n) + "\n\n")
		if n <= 65535 && (r.Port != n || e != api.OK) || n > 65535 && (!isZero(r) || e != api.ErrRequestForm) {
			t.Fatalf("port %d: %d %d", n, r.Port, e)
		}
	}
	const n = 1 << 20
	path, value := strings.Repeat("/p", n), strings.Repeat("v ", n)
	r, e := request.Decode("A " + path + " 0.0.0.0:1\nx:" + value + "\nx:" + value + "\n\n")
	if e != api.OK || r.Path != path || len(r.Headers) != 1 || r.Headers[0].Value != value[:2*n-1]+","+value[:2*n-1] {
		t.Errorf("a long request: %d", e)
	}
}

// Each byte, in the place of each one of a text and ahead of it; each one left out; each beginning.
func TestDecodeEachPlace(t *testing.T) {
	for _, s := range []string{"GET /a 1.2.3.4:80\nb: c \n\n", "A / 0.0.0.0:0\n\n", "A /%2f/.. 10.20.30.40:5\nx:\nX:1\n\n"} {
		for at := range len(s) + 1 {
			checkDecode(t, s[:at])
			for b := range 256 {
				one := string([]byte{byte(b)})
				checkDecode(t, s[:at]+one+s[at:])
				if at < len(s) {
					checkDecode(t, s[:at]+one+s[at+1:])
				}
			}
			if at < len(s) {
				checkDecode(t, s[:at]+s[at+1:])
			}
		}
	}
}

func TestDecodeRandom(t *testing.T) {
	r := rand.New(rand.NewSource(2))
	for range 20000 {
		s := randomText(r)
		checkDecode(t, s)
		checkDecode(t, disturbed(r, s))
	}
}

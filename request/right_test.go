package request_test

import (
	"math/rand"
	"slices"
	"strconv"
	"strings"
	"testing"

	"lychgate/api"
	"lychgate/request"
)

// checkRight holds Right and Encode against the chapter's words.
func checkRight(t *testing.T, r api.Request) {
	t.Helper()
	is := wordsRight(r)
	if got := request.Right(r); got != is {
		t.Fatalf("Right of %s: %v", told(r), got)
	}
	s, e := request.Encode(r)
	if !is {
		if s != "" || e != api.ErrRequestField {
			t.Fatalf("Encode of %s: %s %d, though it is not right", told(r), short(s), e)
		}
		return
	}
	if s != wordsText(r) || e != api.OK {
		t.Fatalf("Encode: %s %d, not %s", short(s), e, told(r))
	}
	if again, e := request.Decode(s); !same(again, r) || e != api.OK {
		t.Fatalf("Decode of Encode of %s: %s %d", short(s), told(again), e)
	}
}

func base() api.Request {
	return api.Request{Method: "GET", Path: "/b~%2F", Addr: 16909060, Port: 80, Headers: []api.Field{{Name: "host", Value: "x,y"}, {Name: "x-y", Value: ""}}}
}

func TestEncodeExamples(t *testing.T) {
	r := base()
	r.Headers = r.Headers[:1]
	if s, e := request.Encode(r); s != "GET /b~%2F 1.2.3.4:80\nhost:x,y\n\n" || e != api.OK || !request.Right(r) {
		t.Errorf("%q %d", s, e)
	}
	least := api.Request{Method: "A", Path: "/"}
	if s, e := request.Encode(least); s != "A / 0.0.0.0:0\n\n" || e != api.OK || !request.Right(least) {
		t.Errorf("%q %d", s, e)
	}
	greatest := api.Request{Method: "ZZZZZZZZZZZZZZZZ", Path: "/~", Addr: api.MaxWord, Port: api.MaxPort, Headers: []api.Field{}}
	if s, e := request.Encode(greatest); s != "ZZZZZZZZZZZZZZZZ /~ 255.255.255.255:65535\n\n" || e != api.OK || !request.Right(greatest) {
		t.Errorf("%q %d", s, e)
	}
}

// changes are requests that differ from base in one field.
func changes() []api.Request {
	var all []api.Request
	change := func(f func(r *api.Request)) {
		r := base()
		f(&r)
		all = append(all, r)
	}
	for _, s := range []string{"", "A", "Get", "G3T", "GE T", "GET ", " GET", "GET\n", "É", "ABCDEFGHIJKLMNOP", "ABCDEFGHIJKLMNOPQ", "GET / 1.2.3.4:80\n\nGET"} {
		change(func(r *api.Request) { r.Method = s })
	}
	for _, s := range []string{"", "/", "a", "/a", "/a/", "//", "/a//b", "/.", "/..", "/...", "/a/..", "/%2f", "/%2F", "/%41", "/%2D", "/%2", "/a b", "/a\n", "/é", "/a?", "/ 9.9.9.9:9\n\n", "/a:b"} {
		change(func(r *api.Request) { r.Path = s })
	}
	for _, n := range []int{-1 << 63, -1 << 32, -1, 0, 1, 1<<32 - 1, 1 << 32, 1<<32 + 1, 1<<63 - 1} {
		change(func(r *api.Request) { r.Addr = n })
	}
	for _, n := range []int{-1 << 63, -65535, -1, 0, 65535, 65536, 1 << 32, 1<<63 - 1} {
		change(func(r *api.Request) { r.Port = n })
	}
	for _, s := range []string{"", "Host", "hosT", "host", "a", "0", "-", "x-y", "y", "h_", "h ", " h", "h:", "h\n", "é", strings.Repeat("h", 32), strings.Repeat("h", 33)} {
		change(func(r *api.Request) { r.Headers[0].Name = s })
		change(func(r *api.Request) { r.Headers[1].Name = s })
	}
	for _, s := range []string{"", " ", "   ", " x", "x ", "x", "x y", ",", ", ", "\n", "x\n", "\t", "\x7f", "\x1f", "~", "!", "é", "x\ny:z", strings.Repeat("v", 9999)} {
		change(func(r *api.Request) { r.Headers[0].Value = s })
		change(func(r *api.Request) { r.Headers[1].Value = s })
	}
	change(func(r *api.Request) { r.Headers = nil })
	change(func(r *api.Request) { r.Headers[0], r.Headers[1] = r.Headers[1], r.Headers[0] })
	change(func(r *api.Request) { r.Headers[1] = r.Headers[0] })
	return all
}

func TestRightEdges(t *testing.T) {
	if !request.Right(base()) || request.Right(api.Request{}) {
		t.Error("the right one, or none")
	}
	all := changes()
	for _, r := range all {
		checkRight(t, r)
	}
	// Two fields that are wrong are no less wrong.
	for i := range all {
		k := (i*7 + 3) % len(all)
		r := all[i]
		r.Path, r.Port, r.Headers = all[k].Path, all[k].Port, all[k].Headers
		checkRight(t, r)
	}
}

func TestRightRefuses(t *testing.T) {
	for i, change := range []func(r *api.Request){
		func(r *api.Request) { r.Headers[0].Name = "Host" },
		func(r *api.Request) { r.Headers[1].Name = "host" },
		func(r *api.Request) { r.Headers[0].Value = " x" },
		func(r *api.Request) { r.Path = "/a/" },
		func(r *api.Request) { r.Port = -1 },
	} {
		r := base()
		change(&r)
		if s, e := request.Encode(r); s != "" || e != api.ErrRequestField || request.Right(r) {
			t.Errorf("%d: %q %d", i, s, e)
		}
	}
}

func TestRightHeaders(t *testing.T) {
	var headers []api.Field
	for i := range 70 {
		r := base()
		r.Headers = headers
		checkRight(t, r)
		if request.Right(r) != (len(headers) <= 64) {
			t.Errorf("%d headers", len(headers))
		}
		headers = append(headers, api.Field{Name: "h" + strconv.Itoa(100+i), Value: strconv.Itoa(i)})
	}
	// Names rise by their bytes, a beginning ahead of what goes on from it.
	rising := []string{"-", "0", "9", "a", "a-", "a0", "aa", "b"}
	for i, a := range rising {
		for k, b := range rising {
			r := base()
			r.Headers = []api.Field{{Name: a}, {Name: b}}
			if request.Right(r) != (i < k) {
				t.Errorf("%s ahead of %s", a, b)
			}
		}
	}
	for b := range 256 {
		one := string([]byte{byte(b)})
		for _, f := range []api.Field{{Name: one}, {Name: "a" + one}, {Name: "a", Value: one}, {Name: "a", Value: "x" + one + "y"}, {Name: "a", Value: one + "y"}, {Name: "a", Value: "x" + one}} {
			r := base()
			r.Headers = []api.Field{f}
			checkRight(t, r)
		}
		r := base()
		r.Method = one
		checkRight(t, r)
		r = base()
		r.Path = "/" + one
		checkRight(t, r)
	}
}

// The stage's theorem, of texts and of fields put together at random.
func TestTheorem(t *testing.T) {
	r := rand.New(rand.NewSource(3))
	rights := 0
	for range 20000 {
		one, e := request.Decode(randomText(r))
		if e != api.OK {
			continue
		}
		if !request.Right(one) {
			t.Fatalf("what Decode tells is not right: %s", told(one))
		}
		checkRight(t, one)
		rights++
		raw := one
		raw.Headers = slices.Clone(one.Headers)
		if len(raw.Headers) > 0 {
			i := r.Intn(len(raw.Headers))
			raw.Headers[i] = api.Field{Name: randomName(r), Value: randomValue(r)}
		}
		if r.Intn(3) == 0 {
			raw.Path = randomPath(r)
		}
		checkRight(t, raw)
	}
	if rights < 5000 {
		t.Errorf("%d requests", rights)
	}
}

func TestHeader(t *testing.T) {
	r := api.Request{Method: "no method", Port: -3, Headers: []api.Field{{Name: "b", Value: "1"}, {Name: "Host", Value: " x "}, {Name: "", Value: "none"}, {Name: "b", Value: "2"}, {Name: "e"}, {Name: "é\n", Value: "\x00"}}}
	for name, want := range map[string]string{"b": "1", "Host": " x ", "": "none", "é\n": "\x00", "e": ""} {
		if v, is := request.Header(r, name); v != want || !is {
			t.Errorf("%q: %q %v", name, v, is)
		}
	}
	for _, name := range []string{"B", "host", "HOST", "a", " b", "b ", "c"} {
		if v, is := request.Header(r, name); v != "" || is {
			t.Errorf("%q: %q %v", name, v, is)
		}
	}
	if v, is := request.Header(api.Request{}, ""); v != "" || is {
		t.Errorf("of no headers: %q %v", v, is)
	}
	many := api.Request{Headers: make([]api.Field, 1000)}
	many.Headers[999] = api.Field{Name: "z", Value: "last"}
	if v, is := request.Header(many, "z"); v != "last" || !is {
		t.Errorf("the last of many: %q %v", v, is)
	}
}

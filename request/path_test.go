package request_test

import (
	"math/rand"
	"strings"
	"testing"

	"lychgate/api"
	"lychgate/request"
)

// checkPath holds Path against the chapter's words.
func checkPath(t *testing.T, s string) {
	t.Helper()
	p, e := request.Path(s)
	want, is := wordsPath(s)
	if is && (p != want || e != api.OK) {
		t.Fatalf("%s: %s %d, not %s", short(s), short(p), e, short(want))
	}
	if !is && (p != "" || e != api.ErrRequestForm) {
		t.Fatalf("%s: %s %d, though it has no form", short(s), short(p), e)
	}
	if q, e := request.Path(p); is && (q != p || e != api.OK) {
		t.Fatalf("%s: its one form %s has another: %s %d", short(s), short(p), short(q), e)
	}
}

func TestPathExamples(t *testing.T) {
	for want, l := range map[string][]string{
		"/":                  {"/", "//", "/.", "/a/..", "/./", "/a/../", "/a/b/../..", "/%2e", "/%2E/", "/a/%2e%2E", "/a/.%2e"},
		"/a/b":               {"/a//b/", "/a/./b", "/a/c/%2E%2e/b", "//a///b//", "/c/../a/b", "/a/b/.", "/a/b/c/.."},
		"/A-":                {"/%41%2d", "/A-", "/%41-", "/A%2D/"},
		"/%C3%A9":            {"/%c3%a9", "/%C3%A9", "/%c3%A9"},
		"/...":               {"/...", "/%2e.%2E", "/..%2e/"},
		"/..a/.b":            {"/..a/.b", "/..a/./.b"},
		"/a%2Fb":             {"/a%2fb", "/a%2Fb"},
		"/%2F/%2F":           {"/%2f/%2f"},
		"/%2541":             {"/%2541"},
		"/%252E":             {"/%252E"},
		"/%21%24%40":         {"/%21%24%40"},
		"/!$&'()*+,;=:@-._~": {"/!$&'()*+,;=:@-._~", "/!$&'()*+,;=:@%2D%2e%5F%7e"},
		"/%00%20%7F%FF%25":   {"/%00%20%7f%ff%25"},
		"":                   {"/..", "/a/../..", "a", "", "/a b", "/%2", "/%2g", "/a?b", "/%", "/%%41", "/%G0", "/%/", "/a%2", "a/", ".", "%2Fa", "%2F", " /", "/ ", "/a#b", "/a\n", "/a\x00", "/\x80", "/é", "/\"", "/<", "/>", "/[", "/]", "/\\", "/^", "/`", "/{", "/|", "/}", "/../a", "/a/../../b/c", "/%2e%2e", "/./..", "//..", "/a/b/../../..", "/%-1", "/%+1", "/% 1", "/%1 ", "/%0x"},
	} {
		for _, s := range l {
			p, e := request.Path(s)
			if p != want || (e == api.OK) != (want != "") || want == "" && e != api.ErrRequestForm {
				t.Errorf("%q: %q %d, not %q", s, p, e, want)
			}
			checkPath(t, s)
		}
	}
}

func TestPathEachByte(t *testing.T) {
	for b := range 256 {
		one := string([]byte{byte(b)})
		for _, s := range []string{one, "/" + one, "/a" + one + "b", "/a/" + one, "/a/" + one + "/b", "/." + one, "/a/.." + one, "/%" + one, "/%4" + one, "/%" + one + "1"} {
			checkPath(t, s)
		}
		for c := range 256 {
			checkPath(t, "/x%"+one+string([]byte{byte(c)})+"y")
		}
	}
}

// Each text of a few bytes that mean something in a path.
func TestPathShort(t *testing.T) {
	const bytes = "/.%2eEFa"
	texts := []string{""}
	for range 6 {
		var longer []string
		for _, s := range texts {
			for i := range len(bytes) {
				longer = append(longer, s+bytes[i:i+1])
			}
		}
		for i, s := range longer {
			checkPath(t, "/"+s)
			if i%16 == 0 {
				checkPath(t, s)
			}
		}
		texts = longer
		if len(texts) > 40000 {
			break
		}
	}
}

func TestPathRandom(t *testing.T) {
	r := rand.New(rand.NewSource(1))
	for range 20000 {
		s := randomPath(r)
		checkPath(t, s)
		checkPath(t, disturbed(r, s))
	}
}

// A path has no greatest length.
func TestPathLong(t *testing.T) {
	const n = 1 << 19
	down, up := strings.Repeat("/ab", n), strings.Repeat("/%2e.", n)
	for s, want := range map[string]string{
		down:                           down,
		down + up:                      "/",
		down + "/c" + up:               "/ab",
		strings.Repeat("/a/..", n):     "/",
		strings.Repeat("/./", n):       "/",
		"/" + strings.Repeat(".", n):   "/" + strings.Repeat(".", n),
		"/" + strings.Repeat("%41", n): "/" + strings.Repeat("A", n),
		down + up + "/..":              "",
		down + "%":                     "",
	} {
		p, e := request.Path(s)
		if p != want || (e == api.OK) != (want != "") || want == "" && e != api.ErrRequestForm {
			t.Errorf("%s: %s %d", short(s), short(p), e)
		}
	}
}

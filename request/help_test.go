package request_test

import (
	"math/rand"
	"regexp"
	"slices"
	"sort"
	"strconv"
	"strings"

	"lychgate/api"
)

// What follows reads requests by the chapter's words, by other means than the package does.

const plain = "ABCDEFGHIJKLMNOPQRSTUVWXYZabcdefghijklmnopqrstuvwxyz0123456789-._~"

var (
	pathForm    = regexp.MustCompile(`\A/(?:[A-Za-z0-9\-._~!$&'()*+,;=:@/]|%[0-9a-fA-F][0-9a-fA-F])*\z`)
	escapeForm  = regexp.MustCompile(`%..`)
	firstForm   = regexp.MustCompile(`\A([A-Z]{1,16}) ([^ \n]*) ((?:0|[1-9][0-9]{0,2})\.(?:0|[1-9][0-9]{0,2})\.(?:0|[1-9][0-9]{0,2})\.(?:0|[1-9][0-9]{0,2})):(0|[1-9][0-9]{0,4})\z`)
	fieldForm   = regexp.MustCompile(`\A([A-Za-z0-9\-]{1,32}):([ -~]*)\z`)
	requestForm = regexp.MustCompile(`\A([^\n]*)\n((?:[^\n]+\n)*)\n\z`)
)

// wordsPath is the one form of a path; false, if s is no written path or has no form.
func wordsPath(s string) (string, bool) {
	if !pathForm.MatchString(s) {
		return "", false
	}
	s = escapeForm.ReplaceAllStringFunc(s, func(m string) string {
		n, _ := strconv.ParseUint(m[1:], 16, 8)
		if strings.Contains(plain, string(rune(n))) {
			return string(rune(n))
		}
		return strings.ToUpper(m)
	})
	var left []string
	for _, piece := range strings.Split(s, "/") {
		switch {
		case piece == "" || piece == ".":
		case piece != "..":
			left = append(left, piece)
		case len(left) == 0:
			return "", false
		default:
			left = left[:len(left)-1]
		}
	}
	return "/" + strings.Join(left, "/"), true
}

// wordsAddr is the address that four numbers tell.
func wordsAddr(s string) (int, bool) {
	n := 0
	for _, part := range strings.Split(s, ".") {
		v, _ := strconv.Atoi(part)
		if v > 255 {
			return 0, false
		}
		n = n<<8 + v
	}
	return n, true
}

// wordsDecode is the one form of a request's text; false, if it is none.
func wordsDecode(s string) (api.Request, bool) {
	parts := requestForm.FindStringSubmatch(s)
	if parts == nil {
		return api.Request{}, false
	}
	first := firstForm.FindStringSubmatch(parts[1])
	if first == nil {
		return api.Request{}, false
	}
	path, is := wordsPath(first[2])
	host, isHost := wordsAddr(first[3])
	at, _ := strconv.Atoi(first[4])
	if !is || !isHost || at > 65535 {
		return api.Request{}, false
	}
	headers, is := wordsHeaders(strings.Split(strings.TrimSuffix(parts[2], "\n"), "\n"))
	if !is {
		return api.Request{}, false
	}
	return api.Request{Method: first[1], Path: path, Addr: host, Port: at, Headers: headers}, true
}

func wordsHeaders(lines []string) ([]api.Field, bool) {
	if len(lines) == 1 && lines[0] == "" {
		return nil, true
	}
	values := map[string][]string{}
	for _, line := range lines {
		field := fieldForm.FindStringSubmatch(line)
		if field == nil {
			return nil, false
		}
		name := strings.ToLower(field[1])
		value := strings.TrimLeft(strings.TrimRight(field[2], " "), " ")
		values[name] = append(values[name], value)
	}
	var headers []api.Field
	for name, l := range values {
		headers = append(headers, api.Field{Name: name, Value: strings.Join(l, ",")})
	}
	sort.Slice(headers, func(i, k int) bool { return headers[i].Name < headers[k].Name })
	return headers, len(lines) <= 64
}

// wordsText is what a request's fields are one behind the other, whether it is right or not.
func wordsText(r api.Request) string {
	host := strconv.Itoa(r.Addr>>24) + "." + strconv.Itoa(r.Addr>>16&255) + "." + strconv.Itoa(r.Addr>>8&255) + "." + strconv.Itoa(r.Addr&255)
	s := r.Method + " " + r.Path + " " + host + ":" + strconv.Itoa(r.Port) + "\n"
	for _, f := range r.Headers {
		s += f.Name + ":" + f.Value + "\n"
	}
	return s + "\n"
}

// wordsRight: r is the one form of some text, just if it is that of its own fields'.
func wordsRight(r api.Request) bool {
	one, is := wordsDecode(wordsText(r))
	return is && same(one, r)
}

func same(a, b api.Request) bool {
	return a.Method == b.Method && a.Path == b.Path && a.Addr == b.Addr && a.Port == b.Port && slices.Equal(a.Headers, b.Headers)
}

func isZero(r api.Request) bool {
	return same(r, api.Request{})
}

// short cuts a text that is too long to be told.
func short(s string) string {
	if len(s) > 200 {
		return strconv.Quote(s[:200]) + "..."
	}
	return strconv.Quote(s)
}

// told is a request for a message.
func told(r api.Request) string {
	return short(wordsText(r))
}

// pick is one of some texts.
func pick(r *rand.Rand, l ...string) string {
	return l[r.Intn(len(l))]
}

// row is up to n texts of some, one behind the other.
func row(r *rand.Rand, n int, l ...string) string {
	s := ""
	for range r.Intn(n + 1) {
		s += pick(r, l...)
	}
	return s
}

func randomPath(r *rand.Rand) string {
	return "/" + row(r, 12, "/", "/", "/a", "/..", "/../", ".", "..", "%2e", "%2E%2e", "%2f", "%7E", "%c3", "b", "-", "~", "=", "%41", "%5b", "%25")
}

func randomName(r *rand.Rand) string {
	return pick(r, "a", "A", "b", "B", "host", "Host", "HOST", "x-y", "X-y", "x-Y", "0", "-")
}

func randomValue(r *rand.Rand) string {
	return row(r, 5, " ", " ", "a", "b", ",", ":", "~", "!", "  ", "A")
}

// randomText is a request's text; now and then its path has no form.
func randomText(r *rand.Rand) string {
	s := pick(r, "GET", "PUT", "A", "ABCDEFGHIJKLMNOP") + " " + randomPath(r)
	s += " " + pick(r, "0.0.0.0", "1.2.3.4", "255.255.255.255", "10.0.0.1") + ":" + pick(r, "0", "80", "65535", "9", "443") + "\n"
	for range r.Intn(7) {
		s += randomName(r) + ":" + randomValue(r) + "\n"
	}
	return s + "\n"
}

// disturbed is a text with a byte more, less or another.
func disturbed(r *rand.Rand, s string) string {
	at := r.Intn(len(s))
	b := pick(r, " ", "\n", ":", "/", "%", ".", "0", "a", "A", "\x00", "\x7f", "\x80", "\t", "\r", "é")
	return s[:at] + pick(r, "", b) + s[at+r.Intn(2):]
}

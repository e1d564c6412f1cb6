package request

import (
	"strings"

	"lychgate/api"
)

// wrong is the panic of what may not be. It says no more, since each face has one answer to it.
type wrong struct{}

// must gives up, if something does not hold: a face recovers.
func must(holds bool) {
	if !holds {
		panic(wrong{})
	}
}

func isGreat(b byte) bool { return b >= 'A' && b <= 'Z' }

func isSmall(b byte) bool { return b >= 'a' && b <= 'z' }

func isDigit(b byte) bool { return b >= '0' && b <= '9' }

func isNameByte(b byte) bool { return isGreat(b) || isSmall(b) || isDigit(b) || b == '-' }

func isValueByte(b byte) bool { return b >= ' ' && b <= '~' }

// mustBeAll gives up, if a byte of s is none of those that it may have.
func mustBeAll(s string, may func(b byte) bool) {
	for i := range len(s) {
		must(may(s[i]))
	}
}

func mustBeMethod(s string) {
	must(len(s) >= 1 && len(s) <= api.MaxMethod)
	mustBeAll(s, isGreat)
}

// oneName is the one form of a header's name.
func oneName(s string) string {
	must(len(s) >= 1 && len(s) <= api.MaxName)
	mustBeAll(s, isNameByte)
	return strings.ToLower(s)
}

// oneValue is the one form of a header's value.
func oneValue(s string) string {
	mustBeAll(s, isValueByte)
	return strings.Trim(s, " ")
}

// port is the number that a port's text tells.
func port(s string) int {
	// No port has more than five digits; so the number stays small.
	must(len(s) >= 1 && len(s) <= 5)
	must(s == "0" || s[0] != '0')
	mustBeAll(s, isDigit)
	n := 0
	for i := range len(s) {
		n = n*10 + int(s[i]-'0')
	}
	must(n <= api.MaxPort)
	return n
}

// mustBeRight gives up, if a request is not in its one form.
func mustBeRight(r api.Request) {
	mustBeMethod(r.Method)
	must(r.Addr >= 0 && r.Addr <= api.MaxWord)
	must(r.Port >= 0 && r.Port <= api.MaxPort)
	must(len(r.Headers) <= api.MaxFields)
	for i, f := range r.Headers {
		must(i == 0 || r.Headers[i-1].Name < f.Name)
		must(oneName(f.Name) == f.Name)
		must(oneValue(f.Value) == f.Value)
	}
	must(onePath(r.Path) == r.Path)
}

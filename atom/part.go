package atom

import (
	"strings"

	"lychgate/api"
	"lychgate/glob"
	"lychgate/span"
)

const (
	greatLetters = "ABCDEFGHIJKLMNOPQRSTUVWXYZ"
	nameBytes    = "abcdefghijklmnopqrstuvwxyz0123456789-"
)

// isSet: is it a set that has numbers, none above the highest one?
func isSet(l []api.Span, highest int) bool {
	return span.Right(l) && len(l) > 0 && l[len(l)-1].Hi <= highest
}

func areMethods(l []string) bool {
	if len(l) < 1 || len(l) > api.MaxParts {
		return false
	}
	for i, s := range l {
		if !madeOf(s, greatLetters, api.MaxMethod) || i > 0 && l[i-1] >= s {
			return false
		}
	}
	return true
}

// arePieces asks what prints patterns, since that refuses just those that are not right.
func arePieces(l []api.Piece) bool {
	_, e := glob.Print(l)
	return e == api.OK
}

// isHeaderName: is it a header's name in its one form?
func isHeaderName(s string) bool {
	return madeOf(s, nameBytes, api.MaxName)
}

// madeOf: has a text at least one byte and no more than some, all of them among those that it may have?
func madeOf(s, may string, most int) bool {
	return s != "" && len(s) <= most && strings.Trim(s, may) == ""
}

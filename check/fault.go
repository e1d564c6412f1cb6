package check

import (
	"errors"
	"strconv"

	"lychgate/api"
)

var (
	errTree   = errors.New("no tree of a source")
	errTwice  = errors.New("a name that is there already")
	errNone   = errors.New("a name that stands for nothing there")
	errRange  = errors.New("ports that may not be")
	errGlob   = errors.New("no pattern")
	errHeader = errors.New("no header's name")
	errMany   = errors.New("too many headers, or tests")
)

// fault wraps what is wrong by where that is.
type fault struct {
	what error
	at   int
}

func (f *fault) Error() string {
	return f.what.Error() + ", at " + strconv.Itoa(f.at)
}

func (f *fault) Unwrap() error { return f.what }

// wrapped is an error at a place; none stays none.
func wrapped(what error, at int) error {
	if what == nil {
		return nil
	}
	return &fault{what, at}
}

// number is what a face answers where an error came up.
func number(err error) api.Errno {
	switch {
	case errors.Is(err, errTree):
		return api.ErrSyntaxTree
	case errors.Is(err, errTwice):
		return api.ErrCheckTwice
	case errors.Is(err, errNone):
		return api.ErrCheckNone
	case errors.Is(err, errRange):
		return api.ErrCheckRange
	case errors.Is(err, errGlob):
		return api.ErrCheckGlob
	case errors.Is(err, errHeader):
		return api.ErrCheckHeader
	case errors.Is(err, errMany):
		return api.ErrCheckMany
	}
	return api.OK
}

// place is where an error is, 0 if nowhere.
func place(err error) int {
	var f *fault
	if errors.As(err, &f) {
		return f.at
	}
	return 0
}

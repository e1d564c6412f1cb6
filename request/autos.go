package request

import (
	"lychgate/api"
	"lychgate/auto"
)

// What has been read of a path in its one form.
const (
	pathStart   = iota // nothing
	pathRoot           // a slash alone
	pathSlash          // a slash behind a piece
	pathPoint          // a piece that is a point so far
	pathPoints         // a piece that is two points so far
	pathInside         // a piece that may end
	pathPercent        // a percent sign
	pathWrong          // what no path begins with
	pathDigit          // a percent sign and the digit 0; then those with the other digits
	pathStates  = pathDigit + 16
)

// What has been read of a value in its one form.
const (
	valueEmpty  = iota // nothing
	valueInside        // what does not end with a blank
	valueBlank         // what ends with a blank
	valueWrong         // what no value begins with
	valueStates
)

// afterPathByte is the state that follows a state by a byte.
func afterPathByte(state int, b byte) int {
	switch state {
	case pathStart:
		if b == '/' {
			return pathRoot
		}
		return pathWrong
	case pathWrong:
		return pathWrong
	case pathPercent:
		if n := greatDigit(b); n >= 0 {
			return pathDigit + n
		}
		return pathWrong
	case pathRoot, pathSlash, pathPoint, pathPoints, pathInside:
		return afterPieceByte(state, b)
	}
	low := greatDigit(b)
	if low < 0 || isPlain(byte((state-pathDigit)<<4|low)) {
		return pathWrong
	}
	return pathInside
}

// afterPieceByte is the state that follows one in which a piece begins or goes on.
func afterPieceByte(state int, b byte) int {
	switch {
	case b == '/' && state == pathInside:
		return pathSlash
	case b == '%':
		return pathPercent
	case b == '.' && (state == pathRoot || state == pathSlash):
		return pathPoint
	case b == '.' && state == pathPoint:
		return pathPoints
	case isPieceByte(b):
		return pathInside
	}
	return pathWrong
}

// afterValueByte is the state that follows a state by a byte.
func afterValueByte(state int, b byte) int {
	switch {
	case state == valueWrong || !isValueByte(b):
		return valueWrong
	case b != ' ':
		return valueInside
	case state == valueEmpty:
		return valueWrong
	}
	return valueBlank
}

// leastOf is the one form of the automaton that goes by after, and has the label 1 in the good states.
func leastOf(states int, after func(state int, b byte) int, good []int) api.Auto {
	columns := make([]byte, 256)
	for b := range columns {
		columns[b] = byte(b)
	}
	raw := api.Auto{Bytes: string(columns), Out: make([]int, states)}
	for s := range states {
		for _, b := range columns {
			raw.Next = append(raw.Next, after(s, b))
		}
	}
	for _, s := range good {
		raw.Out[s] = 1
	}
	// It may be, and has far fewer states than the limit: there is no error.
	a, _ := auto.Least(raw)
	return a
}

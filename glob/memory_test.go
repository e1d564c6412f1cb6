package glob_test

import (
	"math/rand"
	"strconv"
	"testing"

	"lychgate/api"
)

const mixed = `/a*[!b-cx]?**\[[a-c]`

func TestNothingIsWrittenInto(t *testing.T) {
	spans := []api.Span{{Lo: 'a', Hi: 'c'}, {Lo: 'x', Hi: 'x'}, {Lo: -5, Hi: -7}}
	spare := []api.Piece{one('/'), set(true, spans[:2]...), star, {Kind: -9, B: -9}}
	spare[1].Set = spans[:2]
	want := clonePieces(spare)
	print(t, spare[:3])
	match(t, spare[:3], "/bcd")
	match(t, spare[:3], "/def")
	if !samePieces(spare, want) || spans[2] != (api.Span{Lo: -5, Hi: -7}) {
		t.Errorf("what came in was written into: %v, %v", spare, spans)
	}
}

func TestParseGivesNewMemory(t *testing.T) {
	first, second := parse(t, mixed), parse(t, mixed)
	want := clonePieces(first)
	spoil(first)
	if !samePieces(second, want) {
		t.Error("two answers of Parse share memory")
	}
	if third := parse(t, mixed); !samePieces(third, want) {
		t.Error("Parse keeps what it gave")
	}
}

func TestSetsOfOneAnswerShareNothing(t *testing.T) {
	l := parse(t, "[a][a][a]")
	want := clonePieces(l)
	_ = append(l[0].Set, api.Span{Lo: 1, Hi: 2})
	clear(l[1].Set[:cap(l[1].Set)])
	if !samePieces(l[:1], want[:1]) || !samePieces(l[2:], want[2:]) {
		t.Errorf("two sets of one answer share memory: %v", l)
	}
}

// spoil writes into all that an answer has, spare room too.
func spoil(l []api.Piece) {
	for _, p := range l {
		clear(p.Set[:cap(p.Set)])
	}
	clear(l[:cap(l)])
}

func TestCallsDoNotDisturbOneAnother(t *testing.T) {
	for seed := range 8 {
		t.Run(strconv.Itoa(seed), func(t *testing.T) {
			t.Parallel()
			r := rand.New(rand.NewSource(int64(seed)))
			for range 200 {
				l := randomPieces(r, r.Intn(7))
				wantReadBack(t, l)
				if s := randomText(r, l); match(t, l, s) != matchByCuts(l, s) {
					t.Fatalf("%v and %q", l, s)
				}
			}
		})
	}
}

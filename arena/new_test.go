package arena_test

import (
	"slices"
	"testing"

	"lychgate/api"
	"lychgate/arena"
)

func wantNone(t *testing.T, sizes []int, most int) {
	t.Helper()
	if a, e := arena.New(sizes, most); a != nil || e != api.ErrArg {
		t.Errorf("New(%v, %d): %v, error %d; want ErrArg and nothing", sizes, most, a, e)
	}
}

func TestNewHasNoNodes(t *testing.T) {
	twelve := slices.Repeat([]int{256}, 12)
	for _, sizes := range [][]int{{1}, {256}, {2, 3}, {3, 2}, {1, 256, 1}, twelve[:11], twelve} {
		for _, most := range []int{0, 1, 8191, 8192} {
			wantWords(t, newArena(t, most, sizes...), &words{sizes: sizes, most: most})
		}
	}
}

func TestNewRefusesHowManySizes(t *testing.T) {
	wantNone(t, nil, 5)
	wantNone(t, []int{}, 5)
	for _, n := range []int{13, 14, 24, 256, 268, 1 << 16} {
		wantNone(t, slices.Repeat([]int{2}, n), 5)
	}
}

func TestNewRefusesSizes(t *testing.T) {
	for _, size := range append(farNumbers(), 0, 257, 258, 512) {
		wantNone(t, []int{size}, 5)
		wantNone(t, []int{size, 2, 2}, 5)
		wantNone(t, []int{2, size, 2}, 5)
		wantNone(t, []int{2, 2, size}, 5)
	}
}

func TestNewRefusesMost(t *testing.T) {
	for _, most := range append(farNumbers(), 8193) {
		wantNone(t, []int{2}, most)
	}
}

package dd

import "lychgate/arena"

// Refs, by layer 14.
const (
	no        = 0
	yes       = 1
	firstNode = 2
)

// areThere: has an arena all of these? One that is nil has none.
func areThere(a *arena.Arena, refs ...int) bool {
	if a == nil {
		return false
	}
	for _, f := range refs {
		if !a.Has(f) {
			return false
		}
	}
	return true
}

// sizeOf is how many classes a level has; 0, if it is none.
func sizeOf(a *arena.Arena, level int) int {
	if a == nil {
		return 0
	}
	sizes := a.Sizes()
	if level < 0 || level >= len(sizes) {
		return 0
	}
	return sizes[level]
}

// isPoint: is there a class for each level?
func isPoint(a *arena.Arena, classes []int) bool {
	sizes := a.Sizes()
	if len(classes) != len(sizes) {
		return false
	}
	for level, class := range classes {
		if class < 0 || class >= sizes[level] {
			return false
		}
	}
	return true
}

package dd

import "lychgate/arena"

// walk goes through the nodes of diagrams, through each once.
type walk struct {
	*arena.Arena
	met   []bool // by refs
	ended []int
}

func (w *walk) through(f int) {
	if f < firstNode || w.met[f] {
		return
	}
	w.met[f] = true
	n, _ := w.Node(f)
	for _, kid := range n.Kids {
		w.through(kid)
	}
	w.ended = append(w.ended, f)
}

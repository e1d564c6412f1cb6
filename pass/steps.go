package pass

import (
	"lychgate/api"
	"lychgate/fuse"
	"lychgate/prune"
)

// firstPass is the least number of a pass: none stands at 0.
const firstPass = api.PassDead

// work is what a pass is told: a program, and how many nodes it may have.
type work struct {
	program api.Program
	most    int
}

func (w work) dead() (api.Program, api.Errno)  { return prune.Dead(w.program, w.most) }
func (w work) merge() (api.Program, api.Errno) { return prune.Merge(w.program, w.most) }
func (w work) fuse() (api.Program, api.Errno)  { return fuse.Fuse(w.program, w.most) }
func (w work) order() (api.Program, api.Errno) { return Order(w.program, w.most) }

// steps are the passes, each at its number.
func steps() []func(work) (api.Program, api.Errno) {
	return []func(work) (api.Program, api.Errno){
		api.PassDead:  work.dead,
		api.PassMerge: work.merge,
		api.PassFuse:  work.fuse,
		api.PassOrder: work.order,
	}
}

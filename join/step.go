package join

import (
	"skipgraph/api"
	"skipgraph/locked"
)

// Step performs one step of a climber, if it can make one (P13.3).
func Step(f api.Forest, p int) (api.Forest, bool) {
	if !valid(f) {
		return api.Forest{}, false
	}
	out := copied(f)
	return out, isIndex(p, len(out.Climbers)) && act(out, p)
}

// act makes a step in the memory of f. It returns false, with nothing changed, if the climber waits or has nothing to do.
func act(f api.Forest, p int) bool {
	c := f.Climbers[p]
	if c.Kind == api.OpNone {
		return false
	}
	layer, _ := place(f, c)
	list := &f.Layers[layer].List
	if list.Procs[p].Phase == api.PhaseDone {
		return goOn(f, p)
	}
	next, ok := locked.Step(*list, p)
	*list = next
	return ok
}

// goOn lets a climber begin at the next level, or become idle if it was at the last one.
func goOn(f api.Forest, p int) bool {
	c := f.Climbers[p]
	if c.Kind == api.OpInsert {
		c.Level++
	} else {
		c.Level--
	}
	if !isLevel(c.Level, f.Height) {
		f.Climbers[p] = api.Climber{}
		return true
	}
	return begin(f, p, c) == api.OK
}

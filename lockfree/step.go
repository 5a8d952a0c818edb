package lockfree

import "skipgraph/api"

// Step performs one step of a process, if it has begun an operation (P12.4).
func Step(l api.List, p int) (api.List, bool) {
	if !Valid(l) {
		return api.List{}, false
	}
	out := copied(l)
	return out, p >= 0 && p < len(out.Procs) && act(out.Cells, &out.Procs[p])
}

// act makes a step in the memory of cells and x. It returns false, with nothing changed, if the process has nothing to do.
func act(cells []api.Cell, x *api.Proc) bool {
	switch x.Phase {
	case api.PhaseFind:
		find(cells, x)
	case api.PhaseClean:
		if change(&cells[x.Pred], x.Succ, x.Next, false) {
			x.Succ, x.Phase = x.Next, api.PhaseFind
		} else {
			begin(cells, x)
		}
	case api.PhaseLink0:
		// No other process sees x before it is linked to, so that there is nothing to compare.
		cells[x.Cell].Right, x.Phase = x.Succ, api.PhaseSwap
	case api.PhaseSwap:
		if change(&cells[x.Pred], x.Succ, x.Cell, false) {
			x.Result, x.Phase = true, api.PhaseDone
		} else {
			begin(cells, x)
		}
	case api.PhaseMark:
		if change(&cells[x.Cell], x.Next, x.Next, true) {
			x.Result, x.Phase = true, api.PhaseCut
		} else {
			begin(cells, x)
		}
	case api.PhaseCut:
		// Whether this changes a link does not matter: if not, those that come across x cut it out.
		change(&cells[x.Pred], x.Cell, x.Next, false)
		x.Phase = api.PhaseDone
	default:
		return false
	}
	return true
}

// change gives a cell that is not Gone another Right and Gone, if its Right is still the expected one.
func change(c *api.Cell, expected, right int, gone bool) bool {
	if c.Gone || c.Right != expected {
		return false
	}
	c.Right, c.Gone = right, gone
	return true
}

// begin puts a process in front of the list, from where it seeks the place of its cell.
func begin(cells []api.Cell, x *api.Proc) {
	x.Pred, x.Succ, x.Phase = head, cells[head].Right, api.PhaseFind
}

// find goes on by one cell, or ends the search at the first one that is not less than the cell of the process.
func find(cells []api.Cell, x *api.Proc) {
	succ := cells[x.Succ]
	switch {
	case succ.Gone:
		// It does not become Pred, because its Right does not change any more.
		x.Next, x.Phase = succ.Right, api.PhaseClean
	case less(cells, x.Succ, x.Cell):
		x.Pred, x.Succ = x.Succ, succ.Right
	default:
		x.Next = succ.Right
		decide(x)
	}
}

// decide tells what a process does at the place that it found.
func decide(x *api.Proc) {
	found := x.Succ == x.Cell
	switch {
	case x.Kind == api.OpFind:
		x.Result, x.Phase = found, api.PhaseDone
	case x.Kind == api.OpInsert:
		x.Phase = api.PhaseLink0
	case found:
		x.Phase = api.PhaseMark
	default:
		// There is nothing to remove.
		x.Phase = api.PhaseDone
	}
}

package locked

import "skipgraph/api"

// Step performs one step of a process, if it can make one (P11.4).
func Step(l api.List, p int) (api.List, bool) {
	if !Valid(l) {
		return api.List{}, false
	}
	out := copied(l)
	return out, isIndex(p, len(out.Procs)) && act(out, p)
}

// act makes a step in the memory of l. It returns false, with nothing changed, if the process waits or has nothing to do.
func act(l api.List, p int) bool {
	cells, x := l.Cells, &l.Procs[p]
	switch x.Phase {
	case api.PhaseFind:
		find(cells, x)
	case api.PhaseLockPred:
		return lock(l, p, x.Pred, api.PhaseLockSucc)
	case api.PhaseLockSucc:
		return lock(l, p, x.Succ, api.PhaseCheck)
	case api.PhaseCheck:
		decide(cells, x)
	case api.PhaseRetry:
		unlock(cells, p)
		begin(l, p)
	case api.PhaseLink0:
		cells[x.Cell].Left, cells[x.Cell].Right = x.Pred, x.Succ
		x.Phase = api.PhaseLink1
	case api.PhaseLink1:
		cells[x.Pred].Right = x.Cell
		cells[x.Cell].Gone = false
		x.Phase = api.PhaseLink2
	case api.PhaseLink2:
		cells[x.Succ].Left = x.Cell
		x.Result, x.Phase = true, api.PhaseRelease
	case api.PhaseLockNext:
		return lockNext(l, p)
	case api.PhaseUnlink0:
		cells[x.Cell].Gone = true
		x.Phase = api.PhaseUnlink1
	case api.PhaseUnlink1:
		cells[x.Pred].Right = x.Next
		x.Phase = api.PhaseUnlink2
	case api.PhaseUnlink2:
		cells[x.Next].Left = x.Pred
		x.Result, x.Phase = true, api.PhaseRelease
	case api.PhaseRelease:
		unlock(cells, p)
		x.Phase = api.PhaseDone
	default:
		return false
	}
	return true
}

// begin puts a process in front of the list, from where it seeks the place of its cell.
func begin(l api.List, p int) {
	x := &l.Procs[p]
	x.Pred, x.Succ, x.Phase = head, l.Cells[head].Right, api.PhaseFind
}

// find goes on by one cell, or ends the search at the first one that is not less than the cell of the process.
func find(cells []api.Cell, x *api.Proc) {
	switch {
	case compare(cells, x.Succ, x.Cell) < 0:
		x.Pred, x.Succ = x.Succ, cells[x.Succ].Right
	case x.Kind == api.OpFind:
		// Who only looks changes nothing, and needs no lock.
		x.Phase = api.PhaseCheck
	default:
		x.Phase = api.PhaseLockPred
	}
}

// lock locks a cell for a process, which is in the phase next then. It returns false if the cell is locked.
func lock(l api.List, p, cell, next int) bool {
	if l.Cells[cell].Lock != 0 {
		return false
	}
	l.Cells[cell].Lock = p + 1
	l.Procs[p].Phase = next
	return true
}

// lockNext locks the cell behind the one that is removed, because its Left changes.
func lockNext(l api.List, p int) bool {
	next := l.Cells[l.Procs[p].Cell].Right
	if !lock(l, p, next, api.PhaseUnlink0) {
		return false
	}
	l.Procs[p].Next = next
	return true
}

// unlock unlocks all cells that a process has locked, also those that its record does not name.
func unlock(cells []api.Cell, p int) {
	for i := range cells {
		if cells[i].Lock == p+1 {
			cells[i].Lock = 0
		}
	}
}

// decide tells what a process does at the place that it found.
func decide(cells []api.Cell, x *api.Proc) {
	found := x.Succ == x.Cell
	switch {
	case x.Kind == api.OpFind:
		x.Result, x.Phase = found && !cells[x.Cell].Gone, api.PhaseDone
	case cells[x.Pred].Gone || cells[x.Succ].Gone || cells[x.Pred].Right != x.Succ:
		// Others changed the list before its locks were taken.
		x.Phase = api.PhaseRetry
	case found && x.Kind == api.OpRemove:
		x.Phase = api.PhaseLockNext
	case !found && x.Kind == api.OpInsert:
		x.Phase = api.PhaseLink0
	default:
		// The cell is what the operation wants it to be.
		x.Phase = api.PhaseRelease
	}
}

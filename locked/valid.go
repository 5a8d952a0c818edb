package locked

import (
	"cmp"
	"slices"

	"skipgraph/api"
	"skipgraph/keyspace"
)

// Valid reports whether l is well-formed, whatever its cells are linked to and whoever has locked them (P11.2).
func Valid(l api.List) bool {
	return isCellCount(len(l.Cells)) && isProcCount(len(l.Procs)) && validCells(l) && validProcs(l)
}

func isCellCount(n int) bool { return n >= first && n <= first+api.MaxNodes }

func isProcCount(n int) bool { return n >= 1 && n <= api.MaxProcs }

func isIndex(i, n int) bool { return i >= 0 && i < n }

func isKind(kind int) bool { return kind >= api.OpNone && kind <= api.OpFind }

func isPhase(phase int) bool {
	switch phase {
	case api.PhaseClean, api.PhaseSwap, api.PhaseMark, api.PhaseCut:
		// These are phases of machines without locks.
		return false
	default:
		return phase >= api.PhaseIdle && phase <= api.PhaseDone
	}
}

func validCells(l api.List) bool {
	var keys []string
	for i, c := range l.Cells {
		if !isIndex(c.Left, len(l.Cells)) || !isIndex(c.Right, len(l.Cells)) || !isIndex(c.Lock, len(l.Procs)+1) {
			return false
		}
		if i >= first {
			keys = append(keys, c.Key)
		}
	}
	return l.Cells[head].Key == "" && l.Cells[tail].Key == "" && validKeys(keys) && different(keys)
}

func validKeys(keys []string) bool {
	return !slices.ContainsFunc(keys, func(k string) bool { return !keyspace.ValidKey(k) })
}

func different(keys []string) bool {
	seen := map[string]bool{}
	for _, k := range keys {
		seen[k] = true
	}
	return len(seen) == len(keys)
}

func validProcs(l api.List) bool {
	for _, x := range l.Procs {
		for _, i := range []int{x.Cell, x.Pred, x.Succ, x.Next} {
			if !isIndex(i, len(l.Cells)) {
				return false
			}
		}
		if !isKind(x.Kind) || !isPhase(x.Phase) || (x.Kind == api.OpNone) != (x.Phase == api.PhaseIdle) {
			return false
		}
	}
	return true
}

// Check reports whether the links and the locks of l are such as New, Start and Step leave them (P11.6).
func Check(l api.List) bool {
	if !Valid(l) {
		return false
	}
	c, ok := chain(l.Cells)
	return ok && membersLinked(l, c) && locksHeld(l) && (anyLocked(l.Cells) || linkedBack(l.Cells, c))
}

// chain returns the cells to which Right leads from the head to the tail, both included, if they ascend. As they do, it ends.
func chain(cells []api.Cell) ([]int, bool) {
	out := []int{head}
	for at := head; at != tail; {
		next := cells[at].Right
		if compare(cells, at, next) >= 0 {
			return nil, false
		}
		out = append(out, next)
		at = next
	}
	return out, true
}

// membersLinked reports whether the cells of the chain are the members, with those that are being cut out.
func membersLinked(l api.List, chain []int) bool {
	for i, c := range l.Cells {
		switch {
		case i < first:
			if c.Gone {
				return false
			}
		case c.Gone:
			if slices.Contains(chain, i) && !isCutOut(l.Procs, i) {
				return false
			}
		case !slices.Contains(chain, i):
			return false
		}
	}
	return true
}

// isCutOut reports whether a cell is Gone for a process that has not changed the link to it yet.
func isCutOut(procs []api.Proc, i int) bool {
	return slices.ContainsFunc(procs, func(x api.Proc) bool { return x.Cell == i && x.Phase == api.PhaseUnlink1 })
}

// locksHeld reports whether the cells are locked by those processes that hold them.
func locksHeld(l api.List) bool {
	for i, c := range l.Cells {
		for p, x := range l.Procs {
			if (c.Lock == p+1) != holds(x, i) {
				return false
			}
		}
	}
	return true
}

// holds reports whether a process holds a cell by its record.
func holds(x api.Proc, i int) bool {
	if x.Kind == api.OpFind {
		return false
	}
	switch x.Phase {
	case api.PhaseIdle, api.PhaseFind, api.PhaseLockPred, api.PhaseDone:
		return false
	case api.PhaseLockSucc:
		return i == x.Pred
	case api.PhaseUnlink0, api.PhaseUnlink1, api.PhaseUnlink2, api.PhaseRelease:
		// The head is never a Next: 0 stands for none there.
		return i == x.Pred || i == x.Succ || i == x.Next && i != head
	default:
		return i == x.Pred || i == x.Succ
	}
}

func anyLocked(cells []api.Cell) bool {
	return slices.ContainsFunc(cells, func(c api.Cell) bool { return c.Lock != 0 })
}

// linkedBack reports whether Left leads back through the chain. While cells are locked, it may not do so yet.
func linkedBack(cells []api.Cell, chain []int) bool {
	for i, at := range chain[1:] {
		if cells[at].Left != chain[i] {
			return false
		}
	}
	return true
}

// compare compares two cells by their keys, with the head below and the tail above all others.
func compare(cells []api.Cell, a, b int) int {
	return cmp.Or(cmp.Compare(side(a), side(b)), cmp.Compare(cells[a].Key, cells[b].Key))
}

// side tells where the head and the tail are, as their Keys do not.
func side(i int) int {
	switch i {
	case head:
		return -1
	case tail:
		return 1
	default:
		return 0
	}
}

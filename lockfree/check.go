package lockfree

import (
	"slices"

	"skipgraph/api"
)

// Check reports whether the links and the marks of l are such as New, Start and Step leave them (P12.6).
func Check(l api.List) bool {
	if !Valid(l) || l.Cells[head].Gone || l.Cells[tail].Gone {
		return false
	}
	chain, ok := chainFrom(l.Cells, head)
	return ok && inserted(l.Cells, chain) && accounted(l, chain) && leadBack(l.Cells)
}

// chainFrom returns the cells to which Right leads from a cell to the tail, both included, if they ascend. As they do, it ends.
func chainFrom(cells []api.Cell, from int) ([]int, bool) {
	out := []int{from}
	for at := from; at != tail; {
		next := cells[at].Right
		if !less(cells, at, next) {
			return nil, false
		}
		out = append(out, next)
		at = next
	}
	return out, true
}

// inserted reports whether no cell of the chain came into it without having been inserted.
func inserted(cells []api.Cell, chain []int) bool {
	return !slices.ContainsFunc(chain, func(i int) bool { return cells[i].Lock == 0 })
}

// accounted reports whether each cell out of the chain was never inserted, is removed, or is on its way into the chain.
func accounted(l api.List, chain []int) bool {
	for i, c := range l.Cells {
		if c.Lock == 0 && c.Gone {
			return false
		}
		if c.Lock == 1 && !c.Gone && !slices.Contains(chain, i) && !isInserted(l.Procs, i) {
			return false
		}
	}
	return true
}

// isInserted reports whether a process is inserting a cell.
func isInserted(procs []api.Proc, i int) bool {
	return slices.ContainsFunc(procs, func(x api.Proc) bool { return x.Cell == i && x.Kind == api.OpInsert && underWay(x) })
}

// leadBack reports whether those processes that are at cells that were removed since come back into the chain.
func leadBack(cells []api.Cell) bool {
	for i, c := range cells {
		if !c.Gone {
			continue
		}
		if _, ok := chainFrom(cells, i); !ok {
			return false
		}
	}
	return true
}

// less reports whether a cell is less than another one: by their keys, but for the head and the tail.
func less(cells []api.Cell, a, b int) bool {
	switch {
	case a == head || b == tail:
		return a != b
	case a == tail || b == head:
		return false
	default:
		return cells[a].Key < cells[b].Key
	}
}

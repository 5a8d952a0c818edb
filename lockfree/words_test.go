package lockfree

import (
	"testing"

	"skipgraph/api"
)

// stepInWords performs a step as chapter 12 says it.
func stepInWords(l api.List, p int) (api.List, bool) {
	if p < 0 || p >= len(l.Procs) {
		return l, false
	}
	out, rank := clone(l), ranks(l)
	y := &out.Procs[p]
	own, pred, succ := &out.Cells[y.Cell], &out.Cells[y.Pred], &out.Cells[y.Succ]
	again := func() {
		y.Pred = 0
		y.Succ = out.Cells[0].Right
		y.Phase = api.PhaseFind
	}
	switch y.Phase {
	case api.PhaseIdle, api.PhaseDone:
		return l, false
	case api.PhaseFind:
		n := succ.Right
		if succ.Gone {
			y.Next = n
			y.Phase = api.PhaseClean
		} else if rank[y.Succ] < rank[y.Cell] {
			y.Pred = y.Succ
			y.Succ = n
		} else {
			y.Next = n
			if y.Kind == api.OpFind {
				y.Result = y.Succ == y.Cell
				y.Phase = api.PhaseDone
			}
			if y.Kind == api.OpInsert {
				y.Phase = api.PhaseLink0
			}
			if y.Kind == api.OpRemove {
				y.Phase = map[bool]int{true: api.PhaseMark, false: api.PhaseDone}[y.Succ == y.Cell]
			}
		}
	case api.PhaseClean:
		if pred.Right == y.Succ && !pred.Gone {
			pred.Right = y.Next
			y.Succ = y.Next
			y.Phase = api.PhaseFind
		} else {
			again()
		}
	case api.PhaseLink0:
		own.Right = y.Succ
		y.Phase = api.PhaseSwap
	case api.PhaseSwap:
		if pred.Right == y.Succ && !pred.Gone {
			pred.Right = y.Cell
			y.Result = true
			y.Phase = api.PhaseDone
		} else {
			again()
		}
	case api.PhaseMark:
		if own.Right == y.Next && !own.Gone {
			own.Gone = true
			y.Result = true
			y.Phase = api.PhaseCut
		} else {
			again()
		}
	case api.PhaseCut:
		if pred.Right == y.Cell && !pred.Gone {
			pred.Right = y.Next
		}
		y.Phase = api.PhaseDone
	}
	return out, true
}

func wantStep(t *testing.T, l api.List, p int) {
	t.Helper()
	got, ok := Step(l, p)
	if want, wantOK := stepInWords(l, p); ok != wantOK || !same(got, want) {
		t.Fatalf("the step of %d in %v is %v, %v, not %v, %v", p, l, got, ok, want, wantOK)
	}
}

func TestP12_4AnyLists(t *testing.T) {
	var d dice
	for range 100000 {
		l := d.list()
		for p := range l.Procs {
			wantStep(t, l, p)
		}
	}
	for range 3000 {
		l := d.filled(len(samples), api.MaxProcs)
		for p := -1; p <= api.MaxProcs; p++ {
			wantStep(t, l, p)
		}
	}
}

// TestP12_4AllRecords examines the steps of all records of a process in lists of two keys, with each one of the cells Gone.
func TestP12_4AllRecords(t *testing.T) {
	for number := range 4 {
		l := made(t, []string{"b", "a"}, bits(number, 2), 2)
		for _, phase := range phases {
			for _, kind := range kinds {
				for i := range 4 * 4 * 4 * 4 {
					l.Procs[1] = api.Proc{Kind: kind, Phase: phase, Cell: i % 4, Pred: i / 4 % 4, Succ: i / 16 % 4, Next: i / 64, Result: i%3 == 0}
					wantStep(t, l, 1)
					for k := range l.Cells {
						l.Cells[k].Gone = true
						wantStep(t, l, 1)
						l.Cells[k].Gone = false
					}
				}
			}
		}
	}
}

// The parts of Check, as chapter 12 says them.

// ascends returns the cells that one comes across from a cell to the tail, the ends included, if each one is greater than the one
// before.
func ascends(l api.List, from int) (map[int]bool, bool) {
	rank, met := ranks(l), map[int]bool{from: true}
	for at := from; at != 1; {
		next := l.Cells[at].Right
		if rank[next] <= rank[at] {
			return nil, false
		}
		met[next] = true
		at = next
	}
	return met, true
}

func partChain(l api.List, inChain map[int]bool) bool {
	for i := range inChain {
		if l.Cells[i].Lock != 1 {
			return false
		}
	}
	return !l.Cells[0].Gone && !l.Cells[1].Gone
}

func partOthers(l api.List, inChain map[int]bool) bool {
	for i, c := range l.Cells {
		if i >= 2 && c.Lock == 1 && !inChain[i] {
			explained := c.Gone
			for _, y := range l.Procs {
				explained = explained || y.Cell == i && y.Kind == api.OpInsert && y.Phase != api.PhaseIdle && y.Phase != api.PhaseDone
			}
			if !explained {
				return false
			}
		}
		if c.Lock == 0 && c.Gone {
			return false
		}
	}
	return true
}

func partGone(l api.List) bool {
	for i, c := range l.Cells {
		if c.Gone {
			if _, ok := ascends(l, i); !ok {
				return false
			}
		}
	}
	return true
}

// brokenParts returns the parts of Check that do not hold, from 1 to 3. If there is no chain, the second one is not examined.
func brokenParts(l api.List) []int {
	var out []int
	inChain, ok := ascends(l, 0)
	if !ok || !partChain(l, inChain) {
		out = append(out, 1)
	}
	if ok && !partOthers(l, inChain) {
		out = append(out, 2)
	}
	if !partGone(l) {
		out = append(out, 3)
	}
	return out
}

package locked

import (
	"testing"

	"skipgraph/api"
)

// stepInWords performs a step as chapter 11 says it.
func stepInWords(l api.List, p int) (api.List, bool) {
	if p < 0 || p >= len(l.Procs) {
		return l, false
	}
	out, rank := clone(l), ranks(l)
	y := &out.Procs[p]
	pred, succ, own, next := &out.Cells[y.Pred], &out.Cells[y.Succ], &out.Cells[y.Cell], &out.Cells[y.Next]
	unlockAll := func() {
		for i := range out.Cells {
			if out.Cells[i].Lock == p+1 {
				out.Cells[i].Lock = 0
			}
		}
	}
	switch y.Phase {
	case api.PhaseIdle, api.PhaseDone:
		return l, false
	case api.PhaseFind:
		if rank[y.Succ] < rank[y.Cell] {
			y.Pred = y.Succ
			y.Succ = succ.Right
		} else if y.Kind == api.OpFind {
			y.Phase = api.PhaseCheck
		} else {
			y.Phase = api.PhaseLockPred
		}
	case api.PhaseLockPred:
		if pred.Lock > 0 {
			return l, false
		}
		pred.Lock = p + 1
		y.Phase = api.PhaseLockSucc
	case api.PhaseLockSucc:
		if succ.Lock > 0 {
			return l, false
		}
		succ.Lock = p + 1
		y.Phase = api.PhaseCheck
	case api.PhaseCheck:
		retry := pred.Gone || succ.Gone || pred.Right != y.Succ
		isX := y.Succ == y.Cell
		if y.Kind == api.OpFind {
			y.Result = isX && !own.Gone
			y.Phase = api.PhaseDone
		} else if retry {
			y.Phase = api.PhaseRetry
		} else if y.Kind == api.OpInsert {
			y.Phase = map[bool]int{true: api.PhaseRelease, false: api.PhaseLink0}[isX]
		} else {
			y.Phase = map[bool]int{true: api.PhaseLockNext, false: api.PhaseRelease}[isX]
		}
	case api.PhaseRetry:
		unlockAll()
		y.Pred = 0
		y.Succ = out.Cells[0].Right
		y.Phase = api.PhaseFind
	case api.PhaseLink0:
		own.Left = y.Pred
		own.Right = y.Succ
		y.Phase = api.PhaseLink1
	case api.PhaseLink1:
		pred.Right = y.Cell
		own.Gone = false
		y.Phase = api.PhaseLink2
	case api.PhaseLink2:
		succ.Left = y.Cell
		y.Result = true
		y.Phase = api.PhaseRelease
	case api.PhaseLockNext:
		n := own.Right
		if out.Cells[n].Lock > 0 {
			return l, false
		}
		y.Next = n
		out.Cells[n].Lock = p + 1
		y.Phase = api.PhaseUnlink0
	case api.PhaseUnlink0:
		own.Gone = true
		y.Phase = api.PhaseUnlink1
	case api.PhaseUnlink1:
		pred.Right = y.Next
		y.Phase = api.PhaseUnlink2
	case api.PhaseUnlink2:
		next.Left = y.Pred
		y.Result = true
		y.Phase = api.PhaseRelease
	case api.PhaseRelease:
		unlockAll()
		y.Phase = api.PhaseDone
	}
	return out, true
}

func wantStep(t *testing.T, l api.List, p int) {
	t.Helper()
	got, ok := Step(l, p)
	if want, wantOK := stepInWords(l, p); ok != wantOK || !same(got, want) {
		t.Fatalf("the step of %d in %v is %v, %v, not %v, %v", p, l, got, ok, want, wantOK)
	}
}

func TestP11_4AnyLists(t *testing.T) {
	var d dice
	for range 100000 {
		l := d.list()
		for p := range l.Procs {
			wantStep(t, l, p)
		}
	}
	for range 3000 {
		l := d.filled(len(samples), api.MaxProcs)
		for p := -1; p <= api.MaxProcs; p++ {
			wantStep(t, l, p)
		}
	}
}

// TestP11_4AllRecords examines the steps of all records of a process in a list of two keys, with all cells free and each locked.
func TestP11_4AllRecords(t *testing.T) {
	for number := range 4 {
		l := made(t, []string{"b", "a"}, bits(number, 2), 2)
		for _, phase := range phases {
			for _, kind := range kinds {
				for i := range 4 * 4 * 4 * 4 {
					l.Procs[1] = api.Proc{Kind: kind, Phase: phase, Cell: i % 4, Pred: i / 4 % 4, Succ: i / 16 % 4, Next: i / 64, Result: i%3 == 0}
					wantStep(t, l, 1)
					for k := range l.Cells {
						l.Cells[k].Lock = 1 + i%2
						wantStep(t, l, 1)
						l.Cells[k].Lock = 0
					}
				}
			}
		}
	}
}

// The parts of Check, as chapter 11 says them.

// partChain also returns the cells that one comes across.
func partChain(l api.List) (map[int]bool, bool) {
	rank, seen := ranks(l), map[int]bool{0: true}
	at := 0
	for at != 1 {
		next := l.Cells[at].Right
		if rank[next] <= rank[at] {
			return nil, false
		}
		seen[next] = true
		at = next
	}
	return seen, true
}

func partMembers(l api.List, inChain map[int]bool) bool {
	for i, c := range l.Cells {
		if i >= 2 && !c.Gone && !inChain[i] {
			return false
		}
		if inChain[i] && c.Gone {
			removed := false
			for _, y := range l.Procs {
				removed = removed || y.Phase == api.PhaseUnlink1 && y.Cell == i
			}
			if !removed {
				return false
			}
		}
	}
	return !l.Cells[0].Gone && !l.Cells[1].Gone
}

func partLocks(l api.List) bool {
	for p, y := range l.Procs {
		held := map[int]bool{}
		if y.Kind != api.OpFind {
			pred := y.Phase != api.PhaseIdle && y.Phase != api.PhaseFind && y.Phase != api.PhaseLockPred && y.Phase != api.PhaseDone
			if pred {
				held[y.Pred] = true
			}
			if pred && y.Phase != api.PhaseLockSucc {
				held[y.Succ] = true
			}
			if y.Next != 0 && (y.Phase == api.PhaseUnlink0 || y.Phase == api.PhaseUnlink1 || y.Phase == api.PhaseUnlink2 || y.Phase == api.PhaseRelease) {
				held[y.Next] = true
			}
		}
		for i, c := range l.Cells {
			if held[i] != (c.Lock == p+1) {
				return false
			}
		}
	}
	return true
}

func partLeft(l api.List) bool {
	for _, c := range l.Cells {
		if c.Lock != 0 {
			return true
		}
	}
	for at := 0; at != 1; at = l.Cells[at].Right {
		if l.Cells[l.Cells[at].Right].Left != at {
			return false
		}
	}
	return true
}

// brokenParts returns the parts of Check that do not hold, from 1 to 4. If the first one does not, the others that speak of the
// chain are not examined.
func brokenParts(l api.List) []int {
	inChain, ok := partChain(l)
	if !ok {
		return []int{1}
	}
	var out []int
	for i, holds := range []bool{partMembers(l, inChain), partLocks(l), partLeft(l)} {
		if !holds {
			out = append(out, i+2)
		}
	}
	return out
}

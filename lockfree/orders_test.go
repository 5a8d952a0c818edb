package lockfree

import (
	"slices"
	"testing"

	"skipgraph/api"
)

// order is an operation that a process is to perform.
type order struct{ kind, cell int }

// moment is a list of at most 5 cells and 3 processes, with what happened to their operations. It can be a key of a map.
type moment struct {
	cells [5]api.Cell
	procs [3]api.Proc
	// tried is how many operations each process tried to begin, changed whether the last one that it began changed the members, and
	// was and wasNot whether its cell was a member, or was none, at some moment since.
	tried                [3]int
	changed, was, wasNot [3]bool
}

// explorer goes through all orders in which processes begin their operations and make their steps.
type explorer struct {
	t        *testing.T
	keys, n  int // of cells with keys, and of processes
	orders   [][]order
	steps    map[moment]int
	finished []api.List
}

const unknown = -1

// explore examines all moments to which a list with some orders for its processes leads.
func explore(t *testing.T, l api.List, orders [][]order) *explorer {
	t.Helper()
	e := &explorer{t: t, keys: len(l.Cells) - 2, n: len(l.Procs), orders: orders, steps: map[moment]int{}}
	var y moment
	copy(y.cells[:], l.Cells)
	copy(y.procs[:], l.Procs)
	e.longest(y)
	return e
}

func (e *explorer) list(y moment) api.List {
	return api.List{Cells: slices.Clone(y.cells[:e.keys+2]), Procs: slices.Clone(y.procs[:e.n])}
}

// longest returns the greatest number of steps that can be made from a moment on if no operation is started any more.
func (e *explorer) longest(y moment) int {
	e.t.Helper()
	if steps, found := e.steps[y]; found {
		if steps == unknown {
			e.t.Fatalf("steps lead in a circle to %v", y)
		}
		return steps
	}
	e.steps[y] = unknown
	l := e.list(y)
	if !Check(l) {
		e.t.Fatalf("the check of %v is false", l)
	}
	longest, rest := 0, true
	for p := range e.n {
		if isBusy(l.Procs[p]) {
			rest = false
			longest = max(longest, 1+e.longest(e.stepped(y, l, p)))
			continue
		}
		e.wantResult(y, p)
		if y.tried[p] < len(e.orders[p]) {
			rest = false
			e.longest(e.started(y, l, p))
		}
	}
	if longest > Bound(l) {
		e.t.Fatalf("%d steps are possible from %v, whose bound is %d", longest, l, Bound(l))
	}
	if rest {
		e.wantRest(l)
	}
	e.steps[y] = longest
	return longest
}

func isBusy(x api.Proc) bool { return x.Phase != api.PhaseIdle && x.Phase != api.PhaseDone }

// started returns the moment after a process began its next operation, or did not because the cell was inserted before.
func (e *explorer) started(y moment, l api.List, p int) moment {
	e.t.Helper()
	o := e.orders[p][y.tried[p]]
	y.tried[p]++
	next, err := Start(l, p, o.kind, o.cell)
	if o.kind == api.OpInsert && l.Cells[o.cell].Lock == 1 {
		if err != api.ErrDuplicate {
			e.t.Fatalf("Start of %d with %v in %v has the error %d", p, o, l, err)
		}
		return y
	}
	if err != api.OK || !slices.Equal(Members(next), Members(l)) {
		e.t.Fatalf("Start of %d with %v in %v is %v, %d", p, o, l, next, err)
	}
	copy(y.cells[:], next.Cells)
	copy(y.procs[:], next.Procs)
	y.changed[p], y.was[p], y.wasNot[p] = false, false, false
	e.note(&y, Members(next))
	return y
}

// note writes down which cells are members now. For an operation that has just ended, that comes too late.
func (e *explorer) note(y *moment, members []int) {
	for p := range e.n {
		if isBusy(y.procs[p]) {
			in := slices.Contains(members, y.procs[p].Cell)
			y.was[p], y.wasNot[p] = y.was[p] || in, y.wasNot[p] || !in
		}
	}
}

// stepped returns the moment after a step of a process that is under way: no such process waits.
func (e *explorer) stepped(y moment, l api.List, p int) moment {
	e.t.Helper()
	next, ok := Step(l, p)
	if !ok {
		e.t.Fatalf("%d makes no step in %v", p, l)
	}
	x, before, now := l.Procs[p], Members(l), Members(next)
	if !slices.Equal(before, now) {
		inserted := x.Phase == api.PhaseSwap && x.Kind == api.OpInsert && slices.Equal(before, others(now, x.Cell))
		removed := x.Phase == api.PhaseMark && x.Kind == api.OpRemove && slices.Equal(others(before, x.Cell), now)
		if !inserted && !removed || y.changed[p] {
			e.t.Fatalf("a step of %d in %v leads to %v", p, l, next)
		}
		y.changed[p] = true
	}
	if x.Kind != api.OpFind && next.Procs[p].Result != y.changed[p] {
		e.t.Fatalf("the result of %d in %v is not that of an operation that changed the members or not", p, next)
	}
	copy(y.cells[:], next.Cells)
	copy(y.procs[:], next.Procs)
	e.note(&y, now)
	return y
}

// others returns the members without a cell.
func others(members []int, cell int) []int {
	return slices.DeleteFunc(slices.Clone(members), func(i int) bool { return i == cell })
}

// wantResult examines the Result of an operation that has ended.
func (e *explorer) wantResult(y moment, p int) {
	e.t.Helper()
	x, right := y.procs[p], true
	switch x.Kind {
	case api.OpFind:
		right = !y.changed[p] && (x.Result && y.was[p] || !x.Result && y.wasNot[p])
	case api.OpInsert:
		right = x.Result && y.changed[p]
	case api.OpRemove:
		right = x.Result == y.changed[p] && (x.Result || y.wasNot[p])
	}
	if !right {
		e.t.Fatalf("the result of %d in %v was right at no moment", p, y)
	}
}

// wantRest examines a list in which all operations have ended: the members are what was inserted and not removed.
func (e *explorer) wantRest(l api.List) {
	e.t.Helper()
	var want []int
	for _, i := range orderOf(l) {
		if l.Cells[i].Lock == 1 && !l.Cells[i].Gone {
			want = append(want, i)
		}
	}
	if got := Members(l); !slices.Equal(got, want) {
		e.t.Fatalf("at the end the members of %v are %v, not %v", l, got, want)
	}
	e.finished = append(e.finished, l)
}

// someKeys are not in ascending order.
var someKeys = []string{"b", "", "c"}

// allOrders returns all operations for the cells of some keys.
func allOrders(keys int) []order {
	var out []order
	for _, kind := range kinds {
		for i := range keys {
			out = append(out, order{kind, i + 2})
		}
	}
	return out
}

// TestP12_4TwoProcesses lets two processes perform any two operations in all orders.
func TestP12_4TwoProcesses(t *testing.T) {
	for number := range 1 << 3 {
		l := made(t, someKeys, bits(number, 3), 2)
		for _, a := range allOrders(3) {
			for _, b := range allOrders(3) {
				explore(t, l, [][]order{{a}, {b}})
			}
		}
	}
}

// TestP12_4TwoProcessesAgain lets a process perform any operation, and another one any two in all orders.
func TestP12_4TwoProcessesAgain(t *testing.T) {
	for number := range 1 << 3 {
		l := made(t, someKeys, bits(number, 3), 2)
		for _, a := range allOrders(3) {
			for _, b := range allOrders(3) {
				for _, c := range allOrders(3) {
					explore(t, l, [][]order{{a}, {b, c}})
				}
			}
		}
	}
}

// TestP12_4ThreeProcesses lets three processes perform any three operations for two cells in all orders.
func TestP12_4ThreeProcesses(t *testing.T) {
	for number := range 1 << 2 {
		l := made(t, someKeys[:2], bits(number, 2), 3)
		for i, a := range allOrders(2) {
			for k, b := range allOrders(2)[i:] {
				for _, c := range allOrders(2)[i+k:] {
					explore(t, l, [][]order{{a}, {b}, {c}})
				}
			}
		}
	}
}

// TestP12_4ThreeCells lets three processes perform operations for three cells in all orders.
func TestP12_4ThreeCells(t *testing.T) {
	for number := range 1 << 3 {
		l := made(t, someKeys, bits(number, 3), 3)
		for i := range 27 {
			explore(t, l, [][]order{{{kinds[i%3], 2}}, {{kinds[i/3%3], 3}}, {{kinds[i/9], 4}}})
		}
	}
}

// TestP12_4ThreeProcessesAgain lets three processes remove and find neighbours of a cell that is inserted and removed meanwhile.
func TestP12_4ThreeProcessesAgain(t *testing.T) {
	for number := range 1 << 3 {
		l := made(t, someKeys, bits(number, 3), 3)
		for i := range 9 {
			for cell := 2; cell < 5; cell++ {
				twice := []order{{api.OpInsert, cell}, {api.OpRemove, cell}}
				explore(t, l, [][]order{twice, {{kinds[i%3], 3}}, {{kinds[i/3], 4}}})
				explore(t, l, [][]order{twice, {{kinds[i%3], 2}}, {{kinds[i/3], 2}}})
			}
		}
	}
}

// TestP12_4OneOfTwoRemovalsHasSuccess lets two processes remove the same cell.
func TestP12_4OneOfTwoRemovalsHasSuccess(t *testing.T) {
	for number := range 1 << 3 {
		in := bits(number, 3)
		for cell := 2; cell < 5; cell++ {
			o := []order{{api.OpRemove, cell}}
			e := explore(t, made(t, someKeys, in, 2), [][]order{o, o})
			winners := map[int]bool{}
			for _, l := range e.finished {
				first, second := l.Procs[0].Result, l.Procs[1].Result
				if first && second || (first || second) != in[cell-2] || l.Cells[cell].Gone != in[cell-2] {
					t.Errorf("at the end of two removals of %d the list is %v", cell, l)
				}
				winners[slices.IndexFunc(l.Procs, func(x api.Proc) bool { return x.Result })] = true
			}
			if winners[0] != in[cell-2] || winners[1] != in[cell-2] || winners[-1] == in[cell-2] {
				t.Errorf("of the processes that remove %d only %v have success", cell, winners)
			}
		}
	}
}

// TestP12_4OneOfTwoInserts lets two processes try to insert the same cell.
func TestP12_4OneOfTwoInserts(t *testing.T) {
	for number := range 1 << 3 {
		in := bits(number, 3)
		for cell := 2; cell < 5; cell++ {
			o := []order{{api.OpInsert, cell}}
			for _, l := range explore(t, made(t, someKeys, in, 2), [][]order{o, o}).finished {
				idle := 0
				for _, x := range l.Procs {
					if x == (api.Proc{}) {
						idle++
					}
				}
				if !slices.Contains(Members(l), cell) || idle != map[bool]int{true: 2, false: 1}[in[cell-2]] {
					t.Errorf("at the end of two insertions of %d the list is %v", cell, l)
				}
			}
		}
	}
}

// TestP12_4SameAndNeighbouringPlaces examines that operations for different cells all have success.
func TestP12_4SameAndNeighbouringPlaces(t *testing.T) {
	for number := range 1 << 3 {
		in := bits(number, 3)
		opposite := func(cell int) []order {
			if in[cell-2] {
				return []order{{api.OpRemove, cell}}
			}
			return []order{{api.OpInsert, cell}}
		}
		cells := []int{2, 3, 4}
		e := explore(t, made(t, someKeys, in, 3), [][]order{opposite(2), opposite(3), opposite(4)})
		for _, pair := range [][]int{{2, 3}, {2, 4}, {3, 4}} {
			two := explore(t, made(t, someKeys, in, 2), [][]order{opposite(pair[0]), opposite(pair[1])})
			e.finished = append(e.finished, two.finished...)
		}
		for _, l := range e.finished {
			for _, i := range cells {
				x := slices.IndexFunc(l.Procs, func(x api.Proc) bool { return x.Cell == i })
				changed := x >= 0 && l.Procs[x].Result
				if changed != (x >= 0) || slices.Contains(Members(l), i) != (in[i-2] != changed) {
					t.Errorf("at the end of operations, with the members %v at first, the list is %v", in, l)
				}
			}
		}
	}
}

// firstFailure returns the phase in which the first process begins again, and the Succ that it has then, or 0 if it does not.
func firstFailure(t *testing.T, l api.List) (int, int) {
	t.Helper()
	for l.Procs[0].Phase != api.PhaseDone {
		before := l
		l = after(t, l, 0, 1)
		if !Check(l) {
			t.Fatalf("the check of %v is false", l)
		}
		was, x := before.Procs[0], l.Procs[0]
		if was.Phase != api.PhaseFind && x.Phase == api.PhaseFind && slices.Equal(before.Cells, l.Cells) {
			if x.Pred != 0 || x.Result || x.Next != was.Next {
				t.Errorf("a step in vain from %v leads to %v", before, l)
			}
			return was.Phase, x.Succ
		}
	}
	return 0, 0
}

// TestP12_4EachWayToBeginAgain lets the first process of ready begin again because of operations of the second one.
func TestP12_4EachWayToBeginAgain(t *testing.T) {
	// These are cells before c, and between h and m.
	const a, b, k = 7, 8, 9
	for _, y := range []struct {
		name       string
		kind, cell int
		steps      int // of the first process before those of the second one
		others     []order
		phase      int // in which the first process fails, or 0
		succ       int // with which it begins again
	}{
		{"Pred of an insertion is removed", api.OpInsert, h, 3, []order{{api.OpRemove, c}}, api.PhaseSwap, m},
		{"Succ of an insertion is removed", api.OpInsert, h, 3, []order{{api.OpRemove, m}}, api.PhaseSwap, c},
		{"Succ of an insertion behind the head is removed", api.OpInsert, a, 2, []order{{api.OpRemove, c}}, api.PhaseSwap, m},
		{"another cell comes to the same place", api.OpInsert, h, 3, []order{{api.OpInsert, k}}, api.PhaseSwap, c},
		{"another cell comes to the same place behind the head", api.OpInsert, a, 2, []order{{api.OpInsert, b}}, api.PhaseSwap, b},
		{"another cell comes to the same place, and is removed", api.OpInsert, h, 3, []order{{api.OpInsert, k}, {api.OpRemove, k}}, 0, 0},
		{"x is removed", api.OpRemove, m, 2, []order{{api.OpRemove, m}}, api.PhaseMark, c},
		{"x, which is the first one, is removed", api.OpRemove, c, 1, []order{{api.OpRemove, c}}, api.PhaseMark, m},
		{"another cell comes behind x", api.OpRemove, c, 1, []order{{api.OpInsert, h}}, api.PhaseMark, c},
		{"the cell behind x is removed", api.OpRemove, c, 1, []order{{api.OpRemove, m}}, api.PhaseMark, c},
		{"the cell before x is removed", api.OpRemove, m, 2, []order{{api.OpRemove, c}}, 0, 0},
		{"another cell comes before x", api.OpRemove, m, 2, []order{{api.OpInsert, h}}, 0, 0},
		{"Succ of a find is removed", api.OpFind, x, 2, []order{{api.OpRemove, x}}, api.PhaseClean, c},
		{"Pred of a find is removed", api.OpFind, x, 2, []order{{api.OpRemove, m}}, 0, 0},
	} {
		l := ready()
		l.Cells = append(l.Cells, never("a"), never("b"), never("k"))
		l = after(t, begun(t, l, 0, y.kind, y.cell), 0, y.steps)
		for _, o := range y.others {
			l, _ = ended(t, begun(t, l, 1, o.kind, o.cell), 1)
		}
		if phase, succ := firstFailure(t, l); phase != y.phase || succ != y.succ {
			t.Errorf("%s: the first process of %v fails in the phase %d and begins again with %d, not in %d with %d", y.name, l, phase, succ, y.phase, y.succ)
		}
	}
}

// TestP12_4CleaningInVain lets the first process come to a cell that is Gone and linked, and the second one change that place first.
func TestP12_4CleaningInVain(t *testing.T) {
	const n = 7
	for _, y := range []struct {
		name  string
		gone  int
		steps int // of the first process to PhaseClean
		other order
		succ  int // with which it begins again
	}{
		{"it cuts the cell out", m, 2, order{api.OpFind, x}, c},
		{"it cuts the first cell out", c, 1, order{api.OpFind, x}, m},
		{"it cuts the last cell out", x, 3, order{api.OpRemove, x}, c},
		{"it inserts a cell there", x, 3, order{api.OpInsert, n}, c},
		{"it removes Pred", m, 2, order{api.OpRemove, c}, m},
	} {
		l := ready()
		l.Cells = append(l.Cells, never("n"))
		marks(y.gone)(l)
		l = after(t, begun(t, l, 0, api.OpFind, x), 0, y.steps)
		if got := l.Procs[0]; got.Phase != api.PhaseClean || got.Succ != y.gone {
			t.Fatalf("%s: the first process of %v does not clean", y.name, l)
		}
		l, _ = ended(t, begun(t, l, 1, y.other.kind, y.other.cell), 1)
		if phase, succ := firstFailure(t, l); phase != api.PhaseClean || succ != y.succ {
			t.Errorf("%s: the first process of %v fails in the phase %d and begins again with %d, not with %d", y.name, l, phase, succ, y.succ)
		}
	}
}

// TestP12_4ManyProcesses lets as many processes as there can be change long lists, in many orders.
func TestP12_4ManyProcesses(t *testing.T) {
	for seed := range 120 {
		d := dice(seed)
		n := []int{1, 3, 10, api.MaxNodes}[seed%4]
		l := made(t, shuffled(&d, ranked(n)), bits(d.below(1<<30), n), api.MaxProcs)
		for range 3 {
			for p := range l.Procs {
				// Few cells, so that the processes meet.
				kind, cell := kinds[d.below(3)], 2+d.below(min(n, 6))
				wantStart(t, l, p, kind, cell)
				if kind != api.OpInsert || l.Cells[cell].Lock == 0 {
					l = begun(t, l, p, kind, cell)
				}
			}
			l = playedOut(t, l, &d)
		}
	}
}

// playedOut lets all processes end their operations, each one making some steps in a row.
func playedOut(t *testing.T, l api.List, d *dice) api.List {
	t.Helper()
	bound, steps, last := Bound(l), 0, 0
	for Bound(l) > 0 {
		if d.below(4) > 0 {
			last = d.below(api.MaxProcs)
		}
		next, ok := Step(l, last)
		if ok != isBusy(l.Procs[last]) || !ok && !same(next, l) || !Check(next) {
			t.Fatalf("a step of %d in %v is %v", last, l, next)
		}
		if ok {
			steps++
		}
		if steps > bound {
			t.Fatalf("%d steps lead to %v, more than %d", steps, next, bound)
		}
		l = next
	}
	for _, x := range l.Procs {
		if x.Kind == api.OpInsert && !x.Result {
			t.Errorf("an insertion of %v has no success", l)
		}
	}
	return l
}

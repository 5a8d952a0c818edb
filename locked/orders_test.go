package locked

import (
	"slices"
	"testing"

	"skipgraph/api"
)

// order is an operation that a process is to perform.
type order struct{ kind, cell int }

// moment is a list of at most 5 cells and 3 processes, with what happened to their operations. It can be a key of a map.
type moment struct {
	cells [5]api.Cell
	procs [3]api.Proc
	// begun is how many operations each process began, changed whether the last one of them changed the members, and was and
	// wasNot whether its cell was a member, or was none, at some moment since it began.
	begun                [3]int
	changed, was, wasNot [3]bool
}

// explorer goes through all orders in which processes begin their operations and make their steps.
type explorer struct {
	t        *testing.T
	keys, n  int // of cells with keys, and of processes
	orders   [][]order
	steps    map[moment]int
	finished []api.List
}

const unknown = -1

// explore examines all moments to which a list with some orders for its processes leads.
func explore(t *testing.T, l api.List, orders [][]order) *explorer {
	t.Helper()
	e := &explorer{t: t, keys: len(l.Cells) - 2, n: len(l.Procs), orders: orders, steps: map[moment]int{}}
	var y moment
	copy(y.cells[:], l.Cells)
	copy(y.procs[:], l.Procs)
	e.longest(y)
	return e
}

func (e *explorer) list(y moment) api.List {
	return api.List{Cells: slices.Clone(y.cells[:e.keys+2]), Procs: slices.Clone(y.procs[:e.n])}
}

// longest returns the greatest number of steps that can be made from a moment on if no operation is started any more.
func (e *explorer) longest(y moment) int {
	e.t.Helper()
	if steps, found := e.steps[y]; found {
		if steps == unknown {
			e.t.Fatalf("steps lead in a circle to %v", y)
		}
		return steps
	}
	e.steps[y] = unknown
	l := e.list(y)
	if !Check(l) {
		e.t.Fatalf("the check of %v is false", l)
	}
	busy, stuck, longest, all := false, true, 0, true
	for p := range e.n {
		if !isBusy(l.Procs[p]) {
			e.wantResult(y, p)
			if y.begun[p] < len(e.orders[p]) {
				all = false
				e.longest(e.started(y, l, p))
			}
			continue
		}
		busy = true
		if next, ok := e.stepped(y, l, p); ok {
			stuck = false
			longest = max(longest, 1+e.longest(next))
		}
	}
	if busy && stuck {
		e.t.Fatalf("all processes of %v wait", l)
	}
	if longest > Bound(l) {
		e.t.Fatalf("%d steps are possible from %v, whose bound is %d", longest, l, Bound(l))
	}
	if all && !busy {
		e.wantRest(l)
	}
	e.steps[y] = longest
	return longest
}

func isBusy(x api.Proc) bool { return x.Phase != api.PhaseIdle && x.Phase != api.PhaseDone }

// started returns the moment after a process began its next operation.
func (e *explorer) started(y moment, l api.List, p int) moment {
	e.t.Helper()
	o := e.orders[p][y.begun[p]]
	next, err := Start(l, p, o.kind, o.cell)
	if err != api.OK {
		e.t.Fatalf("Start of %d with %v in %v has the error %d", p, o, l, err)
	}
	copy(y.procs[:], next.Procs)
	y.begun[p]++
	y.changed[p], y.was[p], y.wasNot[p] = false, false, false
	e.note(&y)
	return y
}

// note writes down which cells are members now. For an operation that has just ended, that comes too late.
func (e *explorer) note(y *moment) {
	for p := range e.n {
		if isBusy(y.procs[p]) {
			in := !y.cells[y.procs[p].Cell].Gone
			y.was[p], y.wasNot[p] = y.was[p] || in, y.wasNot[p] || !in
		}
	}
}

// stepped returns the moment after a step of a process, if it can make one.
func (e *explorer) stepped(y moment, l api.List, p int) (moment, bool) {
	e.t.Helper()
	next, ok := Step(l, p)
	if !ok {
		if !same(next, l) || !waits(l, p) {
			e.t.Fatalf("%d does not wait in %v, and makes no step but leads to %v", p, l, next)
		}
		return y, false
	}
	x := l.Procs[p]
	if before, after := Members(l), Members(next); !slices.Equal(before, after) {
		if x.Phase != api.PhaseLink1 && x.Phase != api.PhaseUnlink0 || !slices.Equal(others(before, x.Cell), others(after, x.Cell)) {
			e.t.Fatalf("a step of %d in %v leads to %v", p, l, next)
		}
		y.changed[p] = true
	}
	copy(y.cells[:], next.Cells)
	copy(y.procs[:], next.Procs)
	e.note(&y)
	return y, true
}

// others returns the members without a cell.
func others(members []int, cell int) []int {
	return slices.DeleteFunc(slices.Clone(members), func(i int) bool { return i == cell })
}

// waits reports whether the cell that a process is about to lock is locked.
func waits(l api.List, p int) bool {
	x := l.Procs[p]
	switch x.Phase {
	case api.PhaseLockPred:
		return l.Cells[x.Pred].Lock != 0
	case api.PhaseLockSucc:
		return l.Cells[x.Succ].Lock != 0
	case api.PhaseLockNext:
		return l.Cells[l.Cells[x.Cell].Right].Lock != 0
	default:
		return false
	}
}

// wantResult examines the Result of an operation that has ended.
func (e *explorer) wantResult(y moment, p int) {
	e.t.Helper()
	x, right := y.procs[p], true
	switch {
	case x.Kind == api.OpFind:
		right = !y.changed[p] && (x.Result && y.was[p] || !x.Result && y.wasNot[p])
	case x.Result != y.changed[p]:
		right = false
	case !x.Result && x.Kind == api.OpInsert:
		right = y.was[p]
	case !x.Result && x.Kind == api.OpRemove:
		right = y.wasNot[p]
	}
	if !right {
		e.t.Fatalf("the result of %d in %v was right at no moment", p, y)
	}
}

// wantRest examines a list in which all operations have ended.
func (e *explorer) wantRest(l api.List) {
	e.t.Helper()
	var keys []string
	var in []bool
	for _, c := range l.Cells {
		if c.Lock != 0 {
			e.t.Fatalf("at the end a cell of %v is locked", l)
		}
		keys, in = append(keys, c.Key), append(in, !c.Gone)
	}
	for i, c := range linkedList(keys[2:], in[2:], e.n).Cells {
		if !c.Gone && l.Cells[i] != c {
			e.t.Fatalf("at the end the cell %d of %v is not %v", i, l, c)
		}
	}
	e.finished = append(e.finished, l)
}

// someKeys are not in ascending order.
var someKeys = []string{"b", "", "c"}

// allOrders returns all operations for the cells of some keys.
func allOrders(keys int) []order {
	var out []order
	for _, kind := range kinds {
		for i := range keys {
			out = append(out, order{kind, i + 2})
		}
	}
	return out
}

// TestP11_4TwoProcesses lets two processes perform any two operations in all orders.
func TestP11_4TwoProcesses(t *testing.T) {
	for number := range 1 << 3 {
		l := made(t, someKeys, bits(number, 3), 2)
		for _, a := range allOrders(3) {
			for _, b := range allOrders(3) {
				explore(t, l, [][]order{{a}, {b}})
			}
		}
	}
}

// TestP11_4TwoProcessesAgain lets a process perform any operation, and another one any two for the same cell, in all orders.
func TestP11_4TwoProcessesAgain(t *testing.T) {
	for number := range 1 << 3 {
		l := made(t, someKeys, bits(number, 3), 2)
		for _, a := range allOrders(3) {
			for _, b := range allOrders(3) {
				for _, kind := range kinds {
					explore(t, l, [][]order{{a}, {b, {kind, b.cell}}})
				}
			}
		}
	}
}

// TestP11_4ThreeProcesses lets three processes perform any three operations for two cells in all orders.
func TestP11_4ThreeProcesses(t *testing.T) {
	for number := range 1 << 2 {
		l := made(t, someKeys[:2], bits(number, 2), 3)
		for i, a := range allOrders(2) {
			for k, b := range allOrders(2)[i:] {
				for _, c := range allOrders(2)[i+k:] {
					explore(t, l, [][]order{{a}, {b}, {c}})
				}
			}
		}
	}
}

// TestP11_4ThreeCells lets three processes perform operations for three cells in all orders.
func TestP11_4ThreeCells(t *testing.T) {
	for number := range 1 << 3 {
		l := made(t, someKeys, bits(number, 3), 3)
		for i := range 27 {
			explore(t, l, [][]order{{{kinds[i%3], 2}}, {{kinds[i/3%3], 3}}, {{kinds[i/9], 4}}})
		}
	}
}

// TestP11_4OneOfTwoHasSuccess examines who can have success if two processes do the same.
func TestP11_4OneOfTwoHasSuccess(t *testing.T) {
	for _, kind := range []int{api.OpInsert, api.OpRemove} {
		for cell := 2; cell < 5; cell++ {
			o := []order{{kind, cell}}
			e := explore(t, made(t, someKeys, all(3, kind == api.OpRemove), 2), [][]order{o, o})
			winners := map[int]bool{}
			for _, l := range e.finished {
				if l.Procs[0].Result == l.Procs[1].Result || l.Cells[cell].Gone != (kind == api.OpRemove) {
					t.Errorf("at the end of two operations %d the list is %v", kind, l)
				}
				winners[slices.IndexFunc(l.Procs, func(x api.Proc) bool { return x.Result })] = true
			}
			if len(winners) != 2 {
				t.Errorf("of the processes that perform %d only %v have success", kind, winners)
			}
		}
	}
}

// TestP11_4NeighbouringPlaces examines that operations for different cells all have success.
func TestP11_4NeighbouringPlaces(t *testing.T) {
	for number := range 1 << 3 {
		in := bits(number, 3)
		opposite := func(cell int) []order {
			if in[cell-2] {
				return []order{{api.OpRemove, cell}}
			}
			return []order{{api.OpInsert, cell}}
		}
		for _, pair := range [][2]int{{2, 3}, {2, 4}, {3, 4}} {
			e := explore(t, made(t, someKeys, in, 2), [][]order{opposite(pair[0]), opposite(pair[1])})
			for _, l := range e.finished {
				if !l.Procs[0].Result || !l.Procs[1].Result {
					t.Errorf("at the end of operations for %v, with the members %v at first, the list is %v", pair, in, l)
				}
			}
		}
	}
}

// retried returns the record of the first process of ready, which begins again because of an operation of the second one.
func retried(t *testing.T, kind, cell, steps, otherKind, otherCell int) api.Proc {
	t.Helper()
	l, err := Start(ready(), 0, kind, cell)
	other := api.ErrInvalid
	for range steps {
		l, _ = Step(l, 0)
	}
	if err == api.OK {
		l, other = Start(l, 1, otherKind, otherCell)
	}
	if other != api.OK {
		t.Fatalf("Start has the errors %d and %d", err, other)
	}
	for ok := true; ok; {
		l, ok = Step(l, 1)
	}
	for l.Procs[0].Phase != api.PhaseRetry {
		next, ok := Step(l, 0)
		if !ok {
			t.Fatalf("%v does not begin again", l)
		}
		l = next
	}
	if l.Cells[l.Procs[0].Pred].Lock != 1 || l.Cells[l.Procs[0].Succ].Lock != 1 {
		t.Errorf("the process has lost its locks in %v", l)
	}
	l, ok := Step(l, 0)
	if !ok || !Check(l) || slices.ContainsFunc(l.Cells, func(c api.Cell) bool { return c.Lock != 0 }) {
		t.Errorf("after beginning again the list is %v", l)
	}
	return l.Procs[0]
}

func TestP11_4Retries(t *testing.T) {
	again := func(kind, cell, succ int) api.Proc { return proc(kind, cell, api.PhaseFind, 0, succ) }
	for _, kind := range []int{api.OpInsert, api.OpRemove} {
		// Three steps lead to x with the Pred m, two to h between c and m.
		if got := retried(t, kind, x, 3, api.OpRemove, m); got != again(kind, x, c) {
			t.Errorf("Pred is Gone: the process is %v", got)
		}
		if got := retried(t, kind, x, 3, api.OpRemove, x); got != again(kind, x, c) {
			t.Errorf("Succ, which is x, is Gone: the process is %v", got)
		}
		if got := retried(t, kind, h, 2, api.OpRemove, m); got != again(kind, h, c) {
			t.Errorf("Succ is Gone: the process is %v", got)
		}
		if got := retried(t, kind, h, 2, api.OpInsert, h); got != again(kind, h, c) {
			t.Errorf("another cell came: the process is %v", got)
		}
		if got := retried(t, kind, c, 1, api.OpRemove, c); got != again(kind, c, m) {
			t.Errorf("the first member is Gone: the process is %v", got)
		}
	}
}

func canStep(l api.List) bool {
	for p := range l.Procs {
		if _, ok := Step(l, p); ok {
			return true
		}
	}
	return false
}

// TestP11_4ManyProcesses lets as many processes as there can be change long lists, in many orders.
func TestP11_4ManyProcesses(t *testing.T) {
	for seed := range 60 {
		d := dice(seed)
		n := []int{1, 3, 10, api.MaxNodes}[seed%4]
		l := made(t, shuffled(&d, ranked(n)), bits(d.below(1<<30), n), api.MaxProcs)
		for p := range l.Procs {
			// Few cells, so that the processes meet.
			l, _ = Start(l, p, kinds[d.below(3)], 2+d.below(min(n, 4)))
		}
		bound, steps, last := Bound(l), 0, 0
		for Bound(l) > 0 {
			if d.below(4) > 0 {
				last = d.below(api.MaxProcs)
			}
			next, ok := Step(l, last)
			if ok {
				steps++
			} else {
				if !canStep(l) || !same(next, l) || isBusy(l.Procs[last]) && !waits(l, last) {
					t.Fatalf("a step of %d in %v is %v", last, l, next)
				}
			}
			if !Check(next) {
				t.Fatalf("the check of %v is false", next)
			}
			l = next
		}
		if steps > bound {
			t.Errorf("%d steps were made, more than %d", steps, bound)
		}
	}
}

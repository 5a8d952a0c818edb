package lockfree

import (
	"math"
	"testing"

	"skipgraph/api"
)

// ready returns the list c, m, x, without h and without s, which was between m and x, and two idle processes.
func ready() api.List {
	return api.List{
		Cells: cells(member("", 3), member("", 0), member("m", 4), member("c", 2), member("x", 1), never("h"), gone("s", 4)),
		Procs: make([]api.Proc, 2),
	}
}

// The indices of the cells of ready.
const (
	m = 2
	c = 3
	x = 4
	h = 5
	s = 6
)

// move is a step of the second process of ready.
type move struct {
	name   string
	proc   api.Proc
	before func(l api.List)
	// after makes of the list and the record what they are after the step. It is nil if there is no step.
	after func(l api.List, y *api.Proc)
}

func proc(kind, cell, phase, pred, succ, next int) api.Proc {
	return api.Proc{Kind: kind, Cell: cell, Phase: phase, Pred: pred, Succ: succ, Next: next}
}

// asFound returns the list as it is.
func asFound(api.List) {}

// marks lets cells be Gone.
func marks(is ...int) func(l api.List) {
	return func(l api.List) {
		for _, i := range is {
			l.Cells[i].Gone = true
		}
	}
}

// leads gives the first of two cells the other one as its Right.
func leads(pairs ...[2]int) func(l api.List) {
	return func(l api.List) {
		for _, pair := range pairs {
			l.Cells[pair[0]].Right = pair[1]
		}
	}
}

// both makes all of some changes.
func both(changes ...func(l api.List)) func(l api.List) {
	return func(l api.List) {
		for _, change := range changes {
			change(l)
		}
	}
}

// goes returns a step that changes only the record: its Pred, Succ, Next and Phase.
func goes(pred, succ, next, phase int) func(l api.List, y *api.Proc) {
	return func(_ api.List, y *api.Proc) { y.Pred, y.Succ, y.Next, y.Phase = pred, succ, next, phase }
}

// again returns the step of a process that begins again with a cell.
func again(succ int) func(l api.List, y *api.Proc) {
	return func(_ api.List, y *api.Proc) { y.Pred, y.Succ, y.Phase = 0, succ, api.PhaseFind }
}

func wantMoves(t *testing.T, moves []move) {
	t.Helper()
	for _, y := range moves {
		before := ready()
		before.Procs[1] = y.proc
		y.before(before)
		want := clone(before)
		if y.after != nil {
			y.after(want, &want.Procs[1])
		}
		got, ok := Step(before, 1)
		if ok != (y.after != nil) || !same(got, want) {
			t.Errorf("%s: the step of %v is %v, %v, not %v", y.name, before, got, ok, want)
		}
	}
}

func TestP12_4FindGoesOn(t *testing.T) {
	var moves []move
	for _, kind := range kinds {
		for _, next := range []int{0, h} {
			find := func(cell, pred, succ int) api.Proc { return proc(kind, cell, api.PhaseFind, pred, succ, next) }
			to := func(pred, succ int) func(l api.List, y *api.Proc) { return goes(pred, succ, next, api.PhaseFind) }
			clean := func(pred, succ, next int) func(l api.List, y *api.Proc) {
				return goes(pred, succ, next, api.PhaseClean)
			}
			moves = append(moves, []move{
				{"from the head", find(x, 0, c), asFound, to(c, m)},
				{"on", find(x, c, m), asFound, to(m, x)},
				{"to the tail", find(x, c, m), leads([2]int{m, 1}), to(m, 1)},
				{"to a cell that is Gone", find(x, c, m), leads([2]int{m, s}), to(m, s)},
				{"from a Pred that is Gone", find(x, c, m), marks(c), to(m, x)},
				{"from a Pred that leads elsewhere", find(x, c, m), leads([2]int{c, x}), to(m, x)},
				{"Succ is the head", find(c, m, 0), asFound, to(0, c)},
				{"keys that are less than the head's and the tail's", find(x, 0, c), func(l api.List) { l.Cells[c].Key, l.Cells[x].Key = "", "\x00" }, to(c, m)},
				{"the empty key behind the head", find(x, 0, 0), func(l api.List) { l.Cells[x].Key = "" }, to(0, c)},
				{"Succ has the Lock 0", find(x, c, h), leads([2]int{h, m}), to(h, m)},
				{"Succ is Gone", find(x, m, s), asFound, clean(m, s, x)},
				{"Succ is Gone, and the first cell", find(x, 0, c), marks(c), clean(0, c, m)},
				{"Succ is Gone, and the last cell", find(x, s, x), marks(x), clean(s, x, 1)},
				{"Succ is Gone and greater", find(c, 0, m), marks(m), clean(0, m, x)},
				{"Succ is x, which is Gone", find(s, m, s), asFound, clean(m, s, x)},
				{"Succ and what is behind it are Gone", find(x, c, m), both(marks(m), leads([2]int{m, s})), clean(c, m, s)},
				{"Succ and Pred are Gone", find(x, c, m), marks(c, m), clean(c, m, x)},
				{"Succ is the tail, which is Gone", find(x, m, 1), marks(1), clean(m, 1, 0)},
				{"Succ is the head, which is Gone", find(x, m, 0), marks(0), clean(m, 0, c)},
			}...)
		}
	}
	wantMoves(t, moves)
}

// TestP12_4FindEnds examines the end of the search, for operations whose Result was false and true before.
func TestP12_4FindEnds(t *testing.T) {
	var moves []move
	for _, kind := range kinds {
		for i := range 4 {
			before := api.Proc{Kind: kind, Phase: api.PhaseFind, Next: i / 2 * h, Result: i%2 == 1}
			find := func(cell, pred, succ int) api.Proc {
				y := before
				y.Cell, y.Pred, y.Succ = cell, pred, succ
				return y
			}
			end := func(found bool, next int) func(l api.List, y *api.Proc) {
				return func(_ api.List, y *api.Proc) {
					y.Next = next
					switch kind {
					case api.OpFind:
						y.Result, y.Phase = found, api.PhaseDone
					case api.OpInsert:
						y.Phase = api.PhaseLink0
					default:
						y.Phase = map[bool]int{true: api.PhaseMark, false: api.PhaseDone}[found]
					}
				}
			}
			moves = append(moves, []move{
				{"Succ is x", find(m, c, m), asFound, end(true, x)},
				{"Succ is x, which is the first one", find(c, 0, c), asFound, end(true, m)},
				{"Succ is x, which is the last one", find(x, m, x), asFound, end(true, 1)},
				{"Succ is greater", find(h, c, m), asFound, end(false, x)},
				{"Succ is greater, and Pred the head", find(h, 0, m), asFound, end(false, x)},
				{"Succ is far greater", find(c, 0, x), asFound, end(false, 1)},
				{"Succ is the tail", find(h, m, 1), asFound, end(false, 0)},
				{"Succ is the tail, and Pred the head", find(h, 0, 1), asFound, end(false, 0)},
				{"Succ is the tail, which leads on", find(h, m, 1), leads([2]int{1, m}), end(false, m)},
				{"x has been removed", find(s, m, x), asFound, end(false, 1)},
				{"what is behind Succ is Gone", find(m, c, m), both(marks(x), leads([2]int{m, x})), end(true, x)},
				{"Pred is Gone", find(m, c, m), marks(c), end(true, x)},
				{"Pred leads elsewhere", find(m, c, m), leads([2]int{c, x}), end(true, x)},
				{"Succ has the Lock 0", find(h, c, h), leads([2]int{h, m}), end(true, m)},
				{"the empty key before the tail", find(x, 0, 1), func(l api.List) { l.Cells[x].Key = "" }, end(false, 0)},
			}...)
		}
	}
	wantMoves(t, moves)
}

func TestP12_4Clean(t *testing.T) {
	var moves []move
	for _, kind := range kinds {
		clean := func(pred, succ, next int) api.Proc { return proc(kind, x, api.PhaseClean, pred, succ, next) }
		cut := func(pred, next int) func(l api.List, y *api.Proc) {
			return func(l api.List, y *api.Proc) { l.Cells[pred].Right, y.Succ, y.Phase = next, next, api.PhaseFind }
		}
		moves = append(moves, []move{
			{"between two cells", clean(c, m, x), marks(m), cut(c, x)},
			{"behind the head", clean(0, c, m), marks(c), cut(0, m)},
			{"before the tail", clean(m, x, 1), marks(x), cut(m, 1)},
			{"between the head and the tail", clean(0, c, 1), marks(c), cut(0, 1)},
			{"to a cell that is Gone", clean(c, m, s), both(marks(m), leads([2]int{m, s})), cut(c, s)},
			{"x itself", clean(m, x, 1), marks(x), cut(m, 1)},
			{"Gone and Right of Succ do not matter", clean(c, m, s), asFound, cut(c, s)},
			{"Pred is Gone", clean(c, m, x), marks(c, m), again(c)},
			{"Pred is Gone, and leads elsewhere", clean(s, m, x), marks(m), again(c)},
			{"the head is Gone", clean(0, c, m), marks(0, c), again(c)},
			{"Succ was cut out before", clean(c, m, x), both(marks(m), leads([2]int{c, x})), again(c)},
			{"another cell came between", clean(c, m, x), both(marks(m), leads([2]int{c, h}, [2]int{h, m})), again(c)},
			{"another cell came behind the head", clean(0, c, m), both(marks(c), leads([2]int{0, h}, [2]int{h, c})), again(h)},
			{"the head leads to the tail", clean(0, c, m), both(marks(c), leads([2]int{0, 1})), again(1)},
		}...)
	}
	wantMoves(t, moves)
}

func TestP12_4Insert(t *testing.T) {
	link := func(pred, succ int) api.Proc { return proc(api.OpInsert, h, api.PhaseLink0, pred, succ, x) }
	linked := func(right int) func(l api.List, y *api.Proc) {
		return func(l api.List, y *api.Proc) { l.Cells[h].Right, y.Phase = right, api.PhaseSwap }
	}
	swap := func(pred, succ int) api.Proc { return proc(api.OpInsert, h, api.PhaseSwap, pred, succ, x) }
	swapped := func(pred int) func(l api.List, y *api.Proc) {
		return func(l api.List, y *api.Proc) { l.Cells[pred].Right, y.Result, y.Phase = h, true, api.PhaseDone }
	}
	moves := []move{
		{"the link of x", link(c, m), asFound, linked(m)},
		{"the link of x to the tail", link(x, 1), asFound, linked(1)},
		{"the link of x, which had another one", link(c, m), leads([2]int{h, x}), linked(m)},
		{"the link of x beside a Pred that leads elsewhere", link(c, m), leads([2]int{c, x}), linked(m)},
		{"the link of x beside cells that are Gone", link(c, m), marks(c, m), linked(m)},
		{"the link to x", swap(c, m), leads([2]int{h, m}), swapped(c)},
		{"the link of the head to x", swap(0, c), leads([2]int{h, c}), swapped(0)},
		{"the link to x before the tail", swap(x, 1), leads([2]int{h, 1}), swapped(x)},
		{"the link to x between the head and the tail", swap(0, 1), leads([2]int{0, 1}, [2]int{h, 1}), swapped(0)},
		{"Succ is Gone", swap(c, m), both(marks(m), leads([2]int{h, m})), swapped(c)},
		{"Right of x does not matter", swap(c, m), leads([2]int{h, 0}), swapped(c)},
		{"Pred is Gone", swap(c, m), both(marks(c), leads([2]int{h, m})), again(c)},
		{"the head is Gone", swap(0, c), both(marks(0), leads([2]int{h, c})), again(c)},
		{"another cell came between", swap(c, x), leads([2]int{h, x}), again(c)},
		{"another cell came behind the head", swap(0, m), leads([2]int{h, m}), again(c)},
		{"Succ was cut out", swap(c, m), both(marks(m), leads([2]int{c, x}, [2]int{h, m})), again(c)},
		{"all cells were cut out", swap(0, c), leads([2]int{0, 1}, [2]int{h, c}), again(1)},
	}
	// What stands in Result is not changed by a failure.
	known := swap(c, x)
	known.Result = true
	wantMoves(t, append(moves, move{"again, with the Result true", known, asFound, again(c)}))
}

func TestP12_4Remove(t *testing.T) {
	mark := func(cell, pred, next int) api.Proc { return proc(api.OpRemove, cell, api.PhaseMark, pred, cell, next) }
	marked := func(cell int) func(l api.List, y *api.Proc) {
		return func(l api.List, y *api.Proc) { l.Cells[cell].Gone, y.Result, y.Phase = true, true, api.PhaseCut }
	}
	cut := func(cell, pred, next int) api.Proc {
		y := proc(api.OpRemove, cell, api.PhaseCut, pred, cell, next)
		y.Result = true
		return y
	}
	linked := func(pred, next int) func(l api.List, y *api.Proc) {
		return func(l api.List, y *api.Proc) { l.Cells[pred].Right, y.Phase = next, api.PhaseDone }
	}
	ended := func(_ api.List, y *api.Proc) { y.Phase = api.PhaseDone }
	wantMoves(t, []move{
		{"the mark", mark(m, c, x), asFound, marked(m)},
		{"the mark of the first cell", mark(c, 0, m), asFound, marked(c)},
		{"the mark of the last cell", mark(x, m, 1), asFound, marked(x)},
		{"Pred is Gone", mark(m, c, x), marks(c), marked(m)},
		{"Pred leads elsewhere", mark(m, c, x), leads([2]int{c, h}), marked(m)},
		{"Next is Gone", mark(m, c, x), marks(x), marked(m)},
		{"another process was first", mark(m, c, x), marks(m), again(c)},
		{"another process was first, and cut out the first cell", mark(c, 0, m), both(marks(c), leads([2]int{0, m})), again(m)},
		{"another cell came behind x", mark(m, c, x), leads([2]int{m, h}), again(c)},
		{"the cell behind x was cut out", mark(m, c, x), leads([2]int{m, 1}), again(c)},
		{"another process was first, and another cell came before that", mark(m, c, x), both(marks(m), leads([2]int{m, h})), again(c)},
		{"the cut", cut(m, c, x), marks(m), linked(c, x)},
		{"the cut of the first cell", cut(c, 0, m), marks(c), linked(0, m)},
		{"the cut of the last cell", cut(x, m, 1), marks(x), linked(m, 1)},
		{"the cut of the only cell", cut(c, 0, 1), both(marks(c), leads([2]int{c, 1})), linked(0, 1)},
		{"the cut to a cell that is Gone", cut(m, c, x), marks(m, x), linked(c, x)},
		{"Right and Gone of x do not matter", cut(m, c, 1), asFound, linked(c, 1)},
		{"the Pred of the cut is Gone", cut(m, c, x), marks(c, m), ended},
		{"the head is Gone", cut(c, 0, m), marks(0, c), ended},
		{"another process cut x out", cut(m, c, x), both(marks(m), leads([2]int{c, x})), ended},
		{"another cell came before x", cut(m, c, x), both(marks(m), leads([2]int{c, h}, [2]int{h, m})), ended},
		{"the Succ of the cut does not matter", proc(api.OpRemove, m, api.PhaseCut, c, x, x), marks(m), linked(c, x)},
	})
	found := mark(m, c, x)
	found.Succ = x
	wantMoves(t, []move{{"the Succ of the mark does not matter", found, asFound, marked(m)}})
}

// TestP12_4PhasesOfOtherKinds examines that the phases but PhaseFind do the same whatever the Kind is.
func TestP12_4PhasesOfOtherKinds(t *testing.T) {
	for _, kind := range kinds {
		wantMoves(t, []move{
			{"link", proc(kind, h, api.PhaseLink0, c, m, 0), asFound, func(l api.List, y *api.Proc) { l.Cells[h].Right, y.Phase = m, api.PhaseSwap }},
			{"swap", proc(kind, h, api.PhaseSwap, c, m, 0), asFound, func(l api.List, y *api.Proc) {
				l.Cells[c].Right, y.Result, y.Phase = h, true, api.PhaseDone
			}},
			{"mark", proc(kind, m, api.PhaseMark, c, h, x), asFound, func(l api.List, y *api.Proc) {
				l.Cells[m].Gone, y.Result, y.Phase = true, true, api.PhaseCut
			}},
			{"cut", proc(kind, m, api.PhaseCut, c, h, x), asFound, func(l api.List, y *api.Proc) { l.Cells[c].Right, y.Phase = x, api.PhaseDone }},
		})
	}
}

func TestP12_4NoStep(t *testing.T) {
	done := proc(api.OpInsert, h, api.PhaseDone, c, m, x)
	known := done
	known.Result = true
	wantMoves(t, []move{
		{"idle", api.Proc{}, asFound, nil},
		{"idle, with a record that is not zero", api.Proc{Cell: h, Pred: c, Succ: m, Next: x, Result: true}, asFound, nil},
		{"done", done, asFound, nil},
		{"done, with the Result true", known, marks(m), nil},
	})
	l := begun(t, begun(t, ready(), 0, api.OpInsert, h), 1, api.OpRemove, m)
	for _, n := range append([]int{-1, -2, 2, 3, 8, math.MinInt + 1}, far...) {
		if got, ok := Step(l, n); ok || !same(got, l) {
			t.Errorf("a step of %d is %v, %v", n, got, ok)
		}
	}
}

func TestP12_4Example(t *testing.T) {
	l := begun(t, made(t, []string{"a"}, []bool{false}, 1), 0, api.OpInsert, 2)
	for i, phase := range []int{api.PhaseLink0, api.PhaseSwap, api.PhaseDone} {
		if got := Members(l); len(got) > 0 {
			t.Errorf("before the step %d the members are %v", i, got)
		}
		l = after(t, l, 0, 1)
		if l.Procs[0].Phase != phase || !Check(l) {
			t.Fatalf("the step %d is %v, not one to the phase %d", i, l, phase)
		}
	}
	want := api.List{
		Cells: cells(member("", 2), member("", 0), member("a", 1)),
		Procs: procs(api.Proc{Kind: api.OpInsert, Cell: 2, Phase: api.PhaseDone, Succ: 1, Result: true}),
	}
	if got, ok := Step(l, 0); ok || !same(l, want) || !same(got, want) {
		t.Errorf("after 3 steps the list is %v, not %v", l, want)
	}
}

// TestP12_4OneProcess lets one process perform all operations, one after another, and examines each result and number of steps.
func TestP12_4OneProcess(t *testing.T) {
	var d dice
	for _, n := range []int{1, 2, 5, len(samples)} {
		for range 30 {
			keys := shuffled(&d, samples)[:n]
			in := bits(d.below(1<<n), n)
			l := made(t, keys, in, 2)
			for range 30 {
				i, kind := d.below(n), kinds[d.below(3)]
				if kind == api.OpInsert && l.Cells[i+2].Lock == 1 {
					wantStart(t, l, 0, kind, i+2)
					continue
				}
				less := 0
				for k, key := range keys {
					if in[k] && key < keys[i] {
						less++
					}
				}
				want, result := less+1, in[i]
				switch {
				case kind == api.OpInsert:
					want, result, in[i] = less+3, true, true
				case kind == api.OpRemove && in[i]:
					want, in[i] = less+3, false
				}
				next, steps := ended(t, begun(t, l, 0, kind, i+2), 0)
				got := next.Procs[0]
				if steps != want || got.Result != result || got.Kind != kind || got.Cell != i+2 || !Check(next) {
					t.Fatalf("%d of %q in %v took %d steps, not %d, and ended as %v", kind, keys[i], l, steps, want, got)
				}
				for k, c := range linkedList(keys, in, 2).Cells {
					if c.Lock == 0 {
						// What is out of the list keeps its Right, and what was in it its Lock.
						c.Right, c.Lock, c.Gone = next.Cells[k].Right, l.Cells[k].Lock, l.Cells[k].Lock == 1
					}
					if next.Cells[k] != c {
						t.Fatalf("after %d of %q the cell %d of %v is not %v", kind, keys[i], k, next, c)
					}
				}
				l = next
			}
		}
	}
}

// TestP12_4CellsOfEachPast examines operations for a cell that is a member, one that was removed and one that never was one.
func TestP12_4CellsOfEachPast(t *testing.T) {
	l := ready()
	// The removed cell s is still linked.
	marked := spoil(l, leads([2]int{m, s}))
	for _, y := range []struct {
		name       string
		l          api.List
		kind, cell int
		steps      int
		result     bool
	}{
		{"a find of a member", l, api.OpFind, m, 2, true},
		{"a find of a removed cell", l, api.OpFind, s, 3, false},
		{"a find of a removed cell that is linked", marked, api.OpFind, s, 5, false},
		{"a find of a cell behind a removed one", marked, api.OpFind, x, 5, true},
		{"a find of a cell that never was a member", l, api.OpFind, h, 2, false},
		{"a removal of a member", l, api.OpRemove, m, 4, true},
		{"a removal of a removed cell", l, api.OpRemove, s, 3, false},
		{"a removal of a removed cell that is linked", marked, api.OpRemove, s, 5, false},
		{"a removal of a member before a removed one", marked, api.OpRemove, m, 4, true},
		{"a removal of a member behind a removed one", marked, api.OpRemove, x, 7, true},
		{"a removal of a cell that never was a member", l, api.OpRemove, h, 2, false},
		{"an insertion of a cell that never was a member", l, api.OpInsert, h, 4, true},
	} {
		before := Members(y.l)
		got, steps := ended(t, begun(t, y.l, 0, y.kind, y.cell), 0)
		if steps != y.steps || got.Procs[0].Result != y.result || !Check(got) {
			t.Errorf("%s in %v took %d steps, not %d, and leads to %v", y.name, y.l, steps, y.steps, got)
		}
		changed := y.result && y.kind != api.OpFind
		if after := Members(got); changed != (len(after) != len(before)) || !changed && got.Cells[y.cell] != y.l.Cells[y.cell] {
			t.Errorf("%s in %v leads to %v", y.name, y.l, got)
		}
	}
	for _, cell := range []int{m, s} {
		wantStart(t, l, 0, api.OpInsert, cell)
		wantStart(t, marked, 0, api.OpInsert, cell)
	}
}

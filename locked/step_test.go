package locked

import (
	"math"
	"testing"

	"skipgraph/api"
)

// ready returns the list c, m, x without h, and two idle processes.
func ready() api.List {
	return api.List{
		Cells: cells(member("", 0, 3), member("", 4, 0), member("m", 3, 4), member("c", 0, 2), member("x", 2, 1), gone("h", 0, 0)),
		Procs: make([]api.Proc, 2),
	}
}

// The indices of the cells of ready.
const (
	m = 2
	c = 3
	x = 4
	h = 5
)

// move is a step of the second process of ready.
type move struct {
	name   string
	proc   api.Proc
	before func(l api.List)
	// after makes of the list and the record what they are after the step. It is nil if the process waits.
	after func(l api.List, x *api.Proc)
}

func proc(kind, cell, phase, pred, succ int) api.Proc {
	return api.Proc{Kind: kind, Cell: cell, Phase: phase, Pred: pred, Succ: succ}
}

// asFound returns the list as it is.
func asFound(api.List) {}

// locks lets processes, named by what stands in Lock, lock cells.
func locks(pairs ...[2]int) func(l api.List) {
	return func(l api.List) {
		for _, pair := range pairs {
			l.Cells[pair[0]].Lock = pair[1]
		}
	}
}

// goes returns a step that changes nothing but the phase.
func goes(phase int) func(l api.List, x *api.Proc) {
	return func(_ api.List, x *api.Proc) { x.Phase = phase }
}

func wantMoves(t *testing.T, moves []move) {
	t.Helper()
	for _, y := range moves {
		before := ready()
		before.Procs[1] = y.proc
		y.before(before)
		want := clone(before)
		if y.after != nil {
			y.after(want, &want.Procs[1])
		}
		got, ok := Step(before, 1)
		if ok != (y.after != nil) || !same(got, want) {
			t.Errorf("%s: the step of %v is %v, %v, not %v", y.name, before, got, ok, want)
		}
	}
}

func TestP11_4Find(t *testing.T) {
	to := func(pred, succ int) func(l api.List, x *api.Proc) {
		return func(_ api.List, x *api.Proc) { x.Pred, x.Succ = pred, succ }
	}
	var moves []move
	for _, kind := range kinds {
		end := goes(api.PhaseLockPred)
		if kind == api.OpFind {
			end = goes(api.PhaseCheck)
		}
		find := func(cell, pred, succ int) api.Proc { return proc(kind, cell, api.PhaseFind, pred, succ) }
		moves = append(moves, []move{
			{"from the head", find(x, 0, c), asFound, to(c, m)},
			{"on", find(x, c, m), asFound, to(m, x)},
			{"Succ is x", find(x, m, x), asFound, end},
			{"Succ is x, which is the first one", find(c, 0, c), asFound, end},
			{"Succ is x, which is Gone", find(x, m, x), func(l api.List) { l.Cells[x].Gone = true }, end},
			{"Succ is greater", find(h, c, m), asFound, end},
			{"Succ is greater and Gone", find(h, c, m), func(l api.List) { l.Cells[m].Gone = true }, end},
			{"Succ is far greater", find(c, 0, x), asFound, end},
			{"Succ is the tail", find(x, m, 1), asFound, end},
			{"Succ is the tail, and Pred the head", find(m, 0, 1), asFound, end},
			{"over a cell that is Gone", find(x, c, h), func(l api.List) { l.Cells[h].Right = m }, to(h, m)},
			{"over the last one", find(x, c, m), func(l api.List) { l.Cells[m].Right = 1 }, to(m, 1)},
			{"Succ is the head", find(c, m, 0), asFound, to(0, c)},
			{"locks do not matter", find(x, c, m), locks([2]int{c, 1}, [2]int{m, 2}, [2]int{x, 1}), to(m, x)},
			{"locks do not matter at the end", find(x, m, x), locks([2]int{m, 1}, [2]int{x, 1}), end},
			{"keys that are less than the head's and the tail's", find(x, 0, c), func(l api.List) { l.Cells[c].Key, l.Cells[x].Key = "", "\x00" }, to(c, m)},
			{"the empty key behind the head", find(x, 0, 0), func(l api.List) { l.Cells[x].Key = "" }, to(0, c)},
			{"the empty key before the tail", find(x, 0, 1), func(l api.List) { l.Cells[x].Key = "" }, end},
		}...)
	}
	wantMoves(t, moves)
}

func TestP11_4Locks(t *testing.T) {
	takes := func(cell, phase int) func(l api.List, x *api.Proc) {
		return func(l api.List, x *api.Proc) { l.Cells[cell].Lock, x.Phase = 2, phase }
	}
	var moves []move
	for _, kind := range []int{api.OpInsert, api.OpRemove} {
		first := func(pred, succ int) api.Proc { return proc(kind, x, api.PhaseLockPred, pred, succ) }
		second := func(pred, succ int) api.Proc { return proc(kind, x, api.PhaseLockSucc, pred, succ) }
		moves = append(moves, []move{
			{"Pred", first(m, x), asFound, takes(m, api.PhaseLockSucc)},
			{"Pred, which is the head", first(0, c), asFound, takes(0, api.PhaseLockSucc)},
			{"Pred, which is Gone", first(h, x), asFound, takes(h, api.PhaseLockSucc)},
			{"Pred, beside a Succ that is locked", first(m, x), locks([2]int{x, 1}, [2]int{0, 1}), takes(m, api.PhaseLockSucc)},
			{"Pred, which the other process has locked", first(m, x), locks([2]int{m, 1}), nil},
			{"Pred, which is the head, and which the other process has locked", first(0, c), locks([2]int{0, 1}), nil},
			{"Pred, which the process itself has locked", first(m, x), locks([2]int{m, 2}), nil},
			{"Succ", second(m, x), locks([2]int{m, 2}), takes(x, api.PhaseCheck)},
			{"Succ, which is the tail", second(x, 1), locks([2]int{x, 2}), takes(1, api.PhaseCheck)},
			{"Succ, which is Gone", second(c, h), locks([2]int{c, 2}), takes(h, api.PhaseCheck)},
			{"Succ, beside other cells that are locked", second(m, x), locks([2]int{m, 2}, [2]int{0, 1}, [2]int{1, 1}), takes(x, api.PhaseCheck)},
			{"Succ, which the other process has locked", second(m, x), locks([2]int{m, 2}, [2]int{x, 1}), nil},
			{"Succ, which is the tail, and which the other process has locked", second(x, 1), locks([2]int{x, 2}, [2]int{1, 1}), nil},
			{"Succ, which the process itself has locked", second(m, x), locks([2]int{m, 2}, [2]int{x, 2}), nil},
			{"Succ, which is Pred", second(m, m), locks([2]int{m, 2}), nil},
		}...)
	}
	wantMoves(t, moves)
}

func TestP11_4CheckOfFind(t *testing.T) {
	result := func(result bool) func(l api.List, x *api.Proc) {
		return func(_ api.List, x *api.Proc) { x.Result, x.Phase = result, api.PhaseDone }
	}
	check := func(cell, pred, succ int) api.Proc { return proc(api.OpFind, cell, api.PhaseCheck, pred, succ) }
	known := check(m, c, x)
	known.Result = true
	wantMoves(t, []move{
		{"a member", check(m, c, m), asFound, result(true)},
		{"a member that was Succ before", check(m, c, m), func(l api.List) { l.Cells[m].Gone = true }, result(false)},
		{"no member", check(h, c, m), asFound, result(false)},
		{"no member before the tail", check(x, m, 1), asFound, result(false)},
		{"a member that came since", check(m, c, x), asFound, result(false)},
		{"Pred is Gone", check(m, h, m), asFound, result(true)},
		{"Succ does not follow Pred", check(x, c, x), asFound, result(true)},
		{"locks do not matter", check(m, c, m), locks([2]int{c, 1}, [2]int{m, 1}), result(true)},
		{"Result was true", known, asFound, result(false)},
	})
}

func TestP11_4CheckOfChanges(t *testing.T) {
	held := func(change func(l api.List)) func(l api.List) {
		return func(l api.List) {
			l.Cells[l.Procs[1].Pred].Lock, l.Cells[l.Procs[1].Succ].Lock = 2, 2
			change(l)
		}
	}
	var moves []move
	for kind, next := range map[int][2]int{api.OpInsert: {api.PhaseRelease, api.PhaseLink0}, api.OpRemove: {api.PhaseLockNext, api.PhaseRelease}} {
		check := func(cell, pred, succ int) api.Proc { return proc(kind, cell, api.PhaseCheck, pred, succ) }
		found, none, again := goes(next[0]), goes(next[1]), goes(api.PhaseRetry)
		moves = append(moves, []move{
			{"a member", check(m, c, m), held(asFound), found},
			{"the first member", check(c, 0, c), held(asFound), found},
			{"no member", check(h, c, m), held(asFound), none},
			{"no member, behind the head", check(h, 0, m), held(func(l api.List) { l.Cells[0].Right = m }), none},
			{"no member, before the tail", check(h, x, 1), held(asFound), none},
			{"Pred is Gone", check(m, c, m), held(func(l api.List) { l.Cells[c].Gone = true }), again},
			{"Pred is Gone, and x no member", check(h, c, m), held(func(l api.List) { l.Cells[c].Gone = true }), again},
			{"Succ is Gone", check(m, c, m), held(func(l api.List) { l.Cells[m].Gone = true }), again},
			{"Succ is Gone, and x no member", check(h, c, m), held(func(l api.List) { l.Cells[m].Gone = true }), again},
			{"another cell came between", check(x, c, x), held(asFound), again},
			{"another cell came between, and x is no member", check(h, c, x), held(asFound), again},
			{"x itself came between", check(m, c, x), held(asFound), again},
			{"Pred leads to the tail", check(x, m, x), held(func(l api.List) { l.Cells[m].Right = 1 }), again},
			{"Left of Succ does not matter", check(m, c, m), held(func(l api.List) { l.Cells[m].Left = x }), found},
			{"the head is Gone", check(c, 0, c), held(func(l api.List) { l.Cells[0].Gone = true }), again},
			{"the tail is Gone", check(h, x, 1), held(func(l api.List) { l.Cells[1].Gone = true }), again},
		}...)
	}
	wantMoves(t, moves)
}

func TestP11_4RetryAndRelease(t *testing.T) {
	free := func(l api.List) {
		for _, i := range []int{m, x, h} {
			l.Cells[i].Lock = 0
		}
	}
	// The other process has locked 0 and c.
	some := locks([2]int{0, 1}, [2]int{c, 1}, [2]int{m, 2}, [2]int{x, 2}, [2]int{h, 2})
	var moves []move
	for _, kind := range kinds {
		for _, result := range []bool{false, true} {
			begin := api.Proc{Kind: kind, Cell: h, Phase: api.PhaseRetry, Pred: m, Succ: x, Next: 1, Result: result}
			end := begin
			end.Phase = api.PhaseRelease
			moves = append(moves, []move{
				{"retry", begin, some, func(l api.List, y *api.Proc) { free(l); y.Pred, y.Succ, y.Phase = 0, c, api.PhaseFind }},
				{"retry without locks", begin, asFound, func(_ api.List, y *api.Proc) { y.Pred, y.Succ, y.Phase = 0, c, api.PhaseFind }},
				{"release", end, some, func(l api.List, y *api.Proc) { free(l); y.Phase = api.PhaseDone }},
				{"release without locks", end, asFound, goes(api.PhaseDone)},
				{"release what the record does not name", end, locks([2]int{0, 2}, [2]int{1, 2}), func(l api.List, y *api.Proc) {
					l.Cells[0].Lock, l.Cells[1].Lock, y.Phase = 0, 0, api.PhaseDone
				}},
			}...)
		}
	}
	wantMoves(t, moves)
}

func TestP11_4Link(t *testing.T) {
	link := func(phase, pred, succ int) api.Proc { return proc(api.OpInsert, h, phase, pred, succ) }
	linked := func(l api.List) {
		l.Cells[h].Left, l.Cells[h].Right = c, m
		locks([2]int{c, 2}, [2]int{m, 2})(l)
	}
	wantMoves(t, []move{
		{"the links of x", link(api.PhaseLink0, c, m), asFound, func(l api.List, y *api.Proc) {
			l.Cells[h].Left, l.Cells[h].Right, y.Phase = c, m, api.PhaseLink1
		}},
		{"the links of x at the ends", link(api.PhaseLink0, 0, 1), func(l api.List) { l.Cells[h].Left, l.Cells[h].Right = c, m }, func(l api.List, y *api.Proc) {
			l.Cells[h].Left, l.Cells[h].Right, y.Phase = 0, 1, api.PhaseLink1
		}},
		{"the link to x", link(api.PhaseLink1, c, m), linked, func(l api.List, y *api.Proc) {
			l.Cells[c].Right, l.Cells[h].Gone, y.Phase = h, false, api.PhaseLink2
		}},
		{"the link of the head to x", link(api.PhaseLink1, 0, c), asFound, func(l api.List, y *api.Proc) {
			l.Cells[0].Right, l.Cells[h].Gone, y.Phase = h, false, api.PhaseLink2
		}},
		{"the link back to x", link(api.PhaseLink2, c, m), linked, func(l api.List, y *api.Proc) {
			l.Cells[m].Left, y.Result, y.Phase = h, true, api.PhaseRelease
		}},
		{"the link of the tail back to x", link(api.PhaseLink2, x, 1), asFound, func(l api.List, y *api.Proc) {
			l.Cells[1].Left, y.Result, y.Phase = h, true, api.PhaseRelease
		}},
	})
}

func TestP11_4Unlink(t *testing.T) {
	unlink := func(cell, phase, pred, next int) api.Proc {
		return api.Proc{Kind: api.OpRemove, Cell: cell, Phase: phase, Pred: pred, Succ: cell, Next: next}
	}
	wantMoves(t, []move{
		{"the lock behind x", unlink(m, api.PhaseLockNext, c, 0), locks([2]int{c, 2}, [2]int{m, 2}), func(l api.List, y *api.Proc) {
			l.Cells[x].Lock, y.Next, y.Phase = 2, x, api.PhaseUnlink0
		}},
		{"the lock of the tail", unlink(x, api.PhaseLockNext, m, 0), asFound, func(l api.List, y *api.Proc) {
			l.Cells[1].Lock, y.Next, y.Phase = 2, 1, api.PhaseUnlink0
		}},
		{"the lock of the head", unlink(h, api.PhaseLockNext, m, 3), asFound, func(l api.List, y *api.Proc) {
			l.Cells[0].Lock, y.Next, y.Phase = 2, 0, api.PhaseUnlink0
		}},
		{"the lock of another cell than Next", unlink(m, api.PhaseLockNext, c, h), locks([2]int{h, 1}), func(l api.List, y *api.Proc) {
			l.Cells[x].Lock, y.Next, y.Phase = 2, x, api.PhaseUnlink0
		}},
		{"the cell behind x is locked", unlink(m, api.PhaseLockNext, c, 0), locks([2]int{c, 2}, [2]int{m, 2}, [2]int{x, 1}), nil},
		{"the tail is locked", unlink(x, api.PhaseLockNext, m, 0), locks([2]int{1, 1}), nil},
		{"the process itself has locked the cell behind x", unlink(m, api.PhaseLockNext, c, h), locks([2]int{x, 2}), nil},
		{"the mark", unlink(m, api.PhaseUnlink0, c, x), asFound, func(l api.List, y *api.Proc) {
			l.Cells[m].Gone, y.Phase = true, api.PhaseUnlink1
		}},
		{"the link to Next", unlink(m, api.PhaseUnlink1, c, x), func(l api.List) { l.Cells[m].Gone = true }, func(l api.List, y *api.Proc) {
			l.Cells[c].Right, y.Phase = x, api.PhaseUnlink2
		}},
		{"the link of the head to the tail", unlink(m, api.PhaseUnlink1, 0, 1), asFound, func(l api.List, y *api.Proc) {
			l.Cells[0].Right, y.Phase = 1, api.PhaseUnlink2
		}},
		{"the link back of Next", unlink(m, api.PhaseUnlink2, c, x), func(l api.List) { l.Cells[c].Right = x }, func(l api.List, y *api.Proc) {
			l.Cells[x].Left, y.Result, y.Phase = c, true, api.PhaseRelease
		}},
		{"the link of the tail back to the head", unlink(m, api.PhaseUnlink2, 0, 1), asFound, func(l api.List, y *api.Proc) {
			l.Cells[1].Left, y.Result, y.Phase = 0, true, api.PhaseRelease
		}},
	})
}

func TestP11_4NoStep(t *testing.T) {
	done := proc(api.OpInsert, h, api.PhaseDone, c, m)
	done.Result = true
	wantMoves(t, []move{
		{"idle", api.Proc{}, asFound, nil},
		{"idle, with a record that is not zero", api.Proc{Cell: h, Pred: c, Succ: m, Next: x, Result: true}, locks([2]int{c, 2}), nil},
		{"done", done, asFound, nil},
		{"done, with a lock", done, locks([2]int{c, 2}, [2]int{m, 1}), nil},
	})
	l := ready()
	l.Procs[0] = proc(api.OpInsert, h, api.PhaseFind, 0, c)
	l.Procs[1] = proc(api.OpRemove, m, api.PhaseFind, 0, c)
	for _, p := range append([]int{-1, -2, 2, 3, 8, math.MinInt + 1}, far...) {
		if got, ok := Step(l, p); ok || !same(got, l) {
			t.Errorf("a step of %d is %v, %v", p, got, ok)
		}
	}
}

func TestP11_4Example(t *testing.T) {
	l := made(t, []string{"a"}, []bool{false}, 1)
	l, _ = Start(l, 0, api.OpInsert, 2)
	for i, phase := range []int{api.PhaseLockPred, api.PhaseLockSucc, api.PhaseCheck, api.PhaseLink0, api.PhaseLink1, api.PhaseLink2, api.PhaseRelease, api.PhaseDone} {
		next, ok := Step(l, 0)
		if !ok || next.Procs[0].Phase != phase || !Check(next) {
			t.Fatalf("the step %d is %v, %v, not one to the phase %d", i, next, ok, phase)
		}
		l = next
	}
	want := api.List{
		Cells: cells(member("", 0, 2), member("", 2, 0), member("a", 0, 1)),
		Procs: procs(api.Proc{Kind: api.OpInsert, Cell: 2, Phase: api.PhaseDone, Succ: 1, Result: true}),
	}
	if got, ok := Step(l, 0); ok || !same(l, want) || !same(got, want) {
		t.Errorf("after 8 steps the list is %v, not %v", l, want)
	}
}

// alone lets the first process perform an operation, and returns how many steps it took.
func alone(t *testing.T, l api.List, kind, cell int) (api.List, int) {
	t.Helper()
	l, err := Start(l, 0, kind, cell)
	if err != api.OK {
		t.Fatalf("Start has the error %d", err)
	}
	for n := 0; ; n++ {
		next, ok := Step(l, 0)
		if !ok {
			if !same(next, l) || l.Procs[0].Phase != api.PhaseDone {
				t.Fatalf("after %d steps the list is %v, then %v", n, l, next)
			}
			return l, n
		}
		if !Check(next) {
			t.Fatalf("after the step %d the list is %v, which does not pass the check", n, next)
		}
		l = next
	}
}

// TestP11_4OneProcess lets one process perform all operations, one after another, and examines each result and number of steps.
func TestP11_4OneProcess(t *testing.T) {
	var d dice
	for _, n := range []int{1, 2, 5, len(samples)} {
		keys := shuffled(&d, samples)[:n]
		in := bits(d.below(1<<n), n)
		l := made(t, keys, in, 2)
		for range 300 {
			i, kind := d.below(n), kinds[d.below(3)]
			less := 0
			for k, key := range keys {
				if in[k] && key < keys[i] {
					less++
				}
			}
			want, result := less+map[int]int{api.OpInsert: 8, api.OpRemove: 9, api.OpFind: 2}[kind], true
			switch {
			case kind == api.OpFind:
				result = in[i]
			case in[i] == (kind == api.OpInsert):
				// Four steps are left: three to lock and to check, one to release, and the one that finds the place.
				want, result = less+5, false
			}
			next, steps := alone(t, l, kind, i+2)
			if kind != api.OpFind {
				in[i] = kind == api.OpInsert
			}
			got := next.Procs[0]
			if steps != want || got.Result != result || got.Kind != kind || got.Cell != i+2 {
				t.Fatalf("%d of %q in %v took %d steps, not %d, and ended as %v", kind, keys[i], l, steps, want, got)
			}
			for k, c := range linkedList(keys, in, 2).Cells {
				if c.Gone {
					// What is out of the list keeps its links.
					c.Left, c.Right = next.Cells[k].Left, next.Cells[k].Right
				}
				if next.Cells[k] != c {
					t.Fatalf("after %d of %q the cell %d of %v is not %v", kind, keys[i], k, next, c)
				}
			}
			l = next
		}
	}
}

package locked

import (
	"slices"
	"testing"

	"skipgraph/api"
)

// stages returns the lists that an operation of the first process leads to, from its start to its end.
func stages(t *testing.T, l api.List, kind, cell int) []api.List {
	t.Helper()
	l, err := Start(l, 0, kind, cell)
	if err != api.OK {
		t.Fatalf("Start has the error %d", err)
	}
	out := []api.List{l}
	for {
		next, ok := Step(l, 0)
		if !ok {
			return out
		}
		out = append(out, next)
		l = next
	}
}

// reached returns lists to which New, Start and Step lead.
func reached(t *testing.T) []api.List {
	t.Helper()
	keys := []string{"m", "c", "x", ""}
	out := []api.List{made(t, nil, nil, 1), made(t, keys, all(4, false), 2)}
	for _, in := range [][]bool{{true, true, false, true}, {false, false, true, false}} {
		for _, kind := range kinds {
			for cell := 2; cell < 6; cell++ {
				out = append(out, stages(t, made(t, keys, in, 3), kind, cell)...)
			}
		}
	}
	// Two operations at once.
	for _, l := range stages(t, made(t, keys, []bool{true, true, true, false}, 2), api.OpInsert, 5) {
		other, _ := Start(l, 1, api.OpRemove, 4)
		for ok := true; ok; other, ok = Step(other, 1) {
			out = append(out, other)
		}
	}
	return out
}

func wantCheck(t *testing.T, l api.List) {
	t.Helper()
	broken := brokenParts(l)
	if got := Check(l); got != (len(broken) == 0) {
		t.Fatalf("the check of %v is %v, and the parts %v are broken", l, got, broken)
	}
}

func TestP11_6ListsThatAreReached(t *testing.T) {
	for _, l := range reached(t) {
		if !Check(l) {
			t.Errorf("the check of %v is false", l)
		}
	}
}

// TestP11_6AllChangesOfOneField compares Check with the chapter's words for lists that are reached, with one field changed.
func TestP11_6AllChangesOfOneField(t *testing.T) {
	alone := map[int]int{}
	for _, l := range reached(t) {
		n := len(l.Cells)
		examine := func(change func(l api.List)) {
			t.Helper()
			changed := spoil(l, change)
			if !Valid(changed) {
				t.Fatalf("%v is not valid", changed)
			}
			wantCheck(t, changed)
			if broken := brokenParts(changed); len(broken) == 1 {
				alone[broken[0]]++
			}
		}
		for i := range l.Cells {
			for _, field := range indexFields {
				for value := range n {
					examine(func(l api.List) { *field.at(l, i) = value })
				}
			}
			for lock := range len(l.Procs) + 1 {
				examine(func(l api.List) { l.Cells[i].Lock = lock })
			}
			examine(func(l api.List) { l.Cells[i].Gone = !l.Cells[i].Gone })
		}
		for p := range l.Procs {
			examine(func(l api.List) { l.Procs[p] = api.Proc{} })
			for _, phase := range phases {
				for _, kind := range kinds {
					examine(func(l api.List) { l.Procs[p].Kind, l.Procs[p].Phase = kind, phase })
				}
			}
		}
	}
	for part := 1; part <= 4; part++ {
		if alone[part] < 100 {
			t.Errorf("the part %d alone is broken only %d times", part, alone[part])
		}
	}
}

// TestP11_6AllLinks examines all links of two cells, whether they are Gone or not.
func TestP11_6AllLinks(t *testing.T) {
	passed := 0
	for number := range 1 << 16 {
		digit := func(at int) int { return number >> (2 * at) & 3 }
		l := api.List{Procs: make([]api.Proc, 1)}
		for i := range 4 {
			l.Cells = append(l.Cells, api.Cell{Key: []string{"", "", "b", "a"}[i], Gone: number>>(12+i)&1 == 1})
		}
		l.Cells[0].Right, l.Cells[2].Right, l.Cells[3].Right = digit(0), digit(1), digit(2)
		l.Cells[1].Left, l.Cells[2].Left, l.Cells[3].Left = digit(3), digit(4), digit(5)
		wantCheck(t, l)
		if Check(l) {
			passed++
		}
		l.Procs[0] = api.Proc{Kind: api.OpFind, Phase: api.PhaseUnlink1, Cell: digit(number % 6)}
		wantCheck(t, l)
	}
	// In the list without members the two cells have any links, in those with one member one has, and in the last one none.
	if want := 16*16 + 2*16 + 1; passed != want {
		t.Errorf("%d lists pass the check, not %d", passed, want)
	}
}

// TestP11_6AllLocks examines all records of a process with all locks that it can have on the cells of a list.
func TestP11_6AllLocks(t *testing.T) {
	passed := 0
	l := made(t, []string{"b", "a"}, []bool{true, true}, 2)
	for _, phase := range phases {
		for _, kind := range kinds {
			for i := range 4 * 4 * 4 {
				l.Procs[1] = api.Proc{Kind: kind, Phase: phase, Cell: 2, Pred: i % 4, Succ: i / 4 % 4, Next: i / 16}
				for set := range 1 << 4 {
					for k, held := range bits(set, 4) {
						l.Cells[k].Lock = map[bool]int{true: 2}[held]
					}
					wantCheck(t, l)
					if Check(l) {
						passed++
					}
				}
			}
		}
	}
	if want := len(phases) * len(kinds) * 4 * 4 * 4; passed != want {
		t.Errorf("%d records pass the check, not %d", passed, want)
	}
}

func TestP11_6AnyLists(t *testing.T) {
	var d dice
	for range 200000 {
		wantCheck(t, d.list())
	}
}

// removing returns the list c, m, x of two processes, the second of which removes m and is in a phase.
func removing(t *testing.T, phase int) api.List {
	t.Helper()
	l := ready()
	l, err := Start(l, 1, api.OpRemove, m)
	if err != api.OK {
		t.Fatalf("Start has the error %d", err)
	}
	for l.Procs[1].Phase != phase {
		next, ok := Step(l, 1)
		if !ok {
			t.Fatalf("no step leads from %v to the phase %d", l, phase)
		}
		l = next
	}
	if !Check(l) {
		t.Fatalf("the check of %v is false", l)
	}
	return l
}

// broken is a change of a list that breaks some parts of Check.
type broken struct {
	name   string
	parts  []int
	change func(l api.List)
}

func wantBroken(t *testing.T, l api.List, changes []broken) {
	t.Helper()
	for _, y := range changes {
		changed := spoil(l, y.change)
		if parts := brokenParts(changed); !slices.Equal(parts, y.parts) {
			t.Errorf("%s: in %v the parts %v are broken, not %v", y.name, changed, parts, y.parts)
		}
		if got := Check(changed); got != (len(y.parts) == 0) {
			t.Errorf("%s: the check of %v is %v", y.name, changed, got)
		}
	}
}

func TestP11_6ListsAtRest(t *testing.T) {
	wantBroken(t, ready(), []broken{
		{"nothing", nil, asFound},
		{"the head leads to itself", []int{1}, func(l api.List) { l.Cells[0].Right = 0 }},
		{"a cell leads to itself", []int{1}, func(l api.List) { l.Cells[m].Right = m }},
		{"a cell leads back", []int{1}, func(l api.List) { l.Cells[x].Right = c }},
		{"a cell leads to the head", []int{1}, func(l api.List) { l.Cells[m].Right = 0 }},
		{"cells are not in order", []int{1}, func(l api.List) { l.Cells[0].Right, l.Cells[m].Right, l.Cells[c].Right = m, c, x }},
		{"keys are not in order", []int{1}, func(l api.List) { l.Cells[m].Key, l.Cells[c].Key = "c", "m" }},
		{"a member is left out", []int{2, 4}, func(l api.List) { l.Cells[c].Right = x }},
		{"the last member is left out", []int{2}, func(l api.List) { l.Cells[m].Right, l.Cells[1].Left = 1, m }},
		{"all members are left out", []int{2}, func(l api.List) { l.Cells[0].Right, l.Cells[1].Left = 1, 0 }},
		{"a cell that is not linked is not Gone", []int{2}, func(l api.List) { l.Cells[h].Gone = false }},
		{"a cell that is linked is Gone", []int{2}, func(l api.List) { l.Cells[m].Gone = true }},
		{"the head is Gone", []int{2}, func(l api.List) { l.Cells[0].Gone = true }},
		{"the tail is Gone", []int{2}, func(l api.List) { l.Cells[1].Gone = true }},
		{"the head is locked", []int{3}, locks([2]int{0, 1})},
		{"the tail is locked", []int{3}, locks([2]int{1, 2})},
		{"a member is locked", []int{3}, locks([2]int{m, 1})},
		{"a cell that is Gone is locked", []int{3}, locks([2]int{h, 2})},
		{"a Left is another member", []int{4}, func(l api.List) { l.Cells[x].Left = c }},
		{"the Left of the first member", []int{4}, func(l api.List) { l.Cells[c].Left = c }},
		{"the Left of the tail", []int{4}, func(l api.List) { l.Cells[1].Left = m }},
		{"the Left of the head", nil, func(l api.List) { l.Cells[0].Left = m }},
		{"the Right of the tail", nil, func(l api.List) { l.Cells[1].Right = m }},
		{"the links of a cell that is Gone", nil, func(l api.List) { l.Cells[h].Left, l.Cells[h].Right = h, 0 }},
		{"the record of an idle process", nil, func(l api.List) { l.Procs[0] = api.Proc{Cell: m, Pred: m, Succ: m, Next: m, Result: true} }},
	})
}

func TestP11_6ListsUnderWay(t *testing.T) {
	removed := func(phase int) func(l api.List) {
		return func(l api.List) {
			l.Cells[m].Gone = true
			l.Procs[0] = proc(api.OpFind, m, phase, 0, 0)
		}
	}
	wantBroken(t, removing(t, api.PhaseUnlink1), []broken{
		{"nothing", nil, asFound},
		{"the mark is the work of another process", nil, func(l api.List) { removed(api.PhaseUnlink1)(l); l.Procs[1].Phase = api.PhaseUnlink0 }},
		{"the mark is the work of nobody", []int{2}, func(l api.List) { l.Procs[1].Phase = api.PhaseUnlink0 }},
		{"the mark is the work of nobody any more", []int{2}, func(l api.List) { l.Procs[1].Phase = api.PhaseUnlink2 }},
		{"the process removes another cell", []int{2}, func(l api.List) { l.Procs[1].Cell = x }},
		{"another cell is Gone, too", []int{2}, func(l api.List) { l.Cells[x].Gone = true }},
		{"the cell is not Gone yet", nil, func(l api.List) { l.Cells[m].Gone = false }},
		{"the cell is not linked any more", nil, func(l api.List) { l.Cells[c].Right = x }},
		{"the head is removed", []int{2}, func(l api.List) { l.Cells[0].Gone, l.Procs[0] = true, proc(api.OpFind, 0, api.PhaseUnlink1, 0, 0) }},
		{"the tail is removed", []int{2}, func(l api.List) { l.Cells[1].Gone, l.Procs[0] = true, proc(api.OpFind, 1, api.PhaseUnlink1, 0, 0) }},
		{"a Left, beside locks", nil, func(l api.List) { l.Cells[c].Left = x }},
	})
	wantBroken(t, removing(t, api.PhaseUnlink2), []broken{
		{"nothing", nil, asFound},
		{"a Left, beside locks", nil, func(l api.List) { l.Cells[1].Left = 0 }},
		{"no locks, but a process that has them", []int{3, 4}, locks([2]int{c, 0}, [2]int{m, 0}, [2]int{x, 0})},
		{"no locks, as it becomes a find", []int{4}, func(l api.List) {
			locks([2]int{c, 0}, [2]int{m, 0}, [2]int{x, 0})(l)
			l.Procs[1].Kind = api.OpFind
		}},
		{"no Next, and no lock on it", nil, func(l api.List) { l.Cells[x].Lock, l.Procs[1].Next = 0, 0 }},
		{"no Next", []int{3}, func(l api.List) { l.Procs[1].Next = 0 }},
		{"the head is locked as if it were Next", []int{3}, func(l api.List) { l.Cells[x].Lock, l.Procs[1].Next, l.Cells[0].Lock = 0, 0, 2 }},
	})
}

// TestP11_6LocksInAllPhases examines which cells a process that removes m holds.
func TestP11_6LocksInAllPhases(t *testing.T) {
	held := map[int][]int{
		api.PhaseFind: nil, api.PhaseLockPred: nil, api.PhaseLockSucc: {c}, api.PhaseCheck: {c, m}, api.PhaseLockNext: {c, m},
		api.PhaseUnlink0: {c, m, x}, api.PhaseUnlink1: {c, m, x}, api.PhaseUnlink2: {c, m, x}, api.PhaseRelease: {c, m, x}, api.PhaseDone: nil,
	}
	for phase, want := range held {
		l := removing(t, phase)
		for i := range l.Cells {
			for lock := range 3 {
				changed := spoil(l, func(l api.List) { l.Cells[i].Lock = lock })
				right := lock == 0
				if slices.Contains(want, i) {
					right = lock == 2
				}
				if got := Check(changed); got != right {
					t.Errorf("in the phase %d, with the lock %d on %d, the check is %v", phase, lock, i, got)
				}
			}
		}
	}
}

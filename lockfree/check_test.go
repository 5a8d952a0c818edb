package lockfree

import (
	"slices"
	"testing"

	"skipgraph/api"
)

// stages returns the lists that an operation of the first process leads to, from its start to its end.
func stages(t *testing.T, l api.List, kind, cell int) []api.List {
	t.Helper()
	out := []api.List{begun(t, l, 0, kind, cell)}
	for {
		next, ok := Step(out[len(out)-1], 0)
		if !ok {
			return out
		}
		out = append(out, next)
	}
}

// reached returns lists to which New, Start and Step lead.
func reached(t *testing.T) []api.List {
	t.Helper()
	keys := []string{"m", "c", "x", ""}
	out := []api.List{made(t, nil, nil, 1), made(t, keys, all(4, false), 2)}
	for _, in := range [][]bool{{true, true, false, true}, {false, false, true, false}} {
		for _, kind := range kinds {
			for cell := 2; cell < 6; cell++ {
				if kind != api.OpInsert || !in[cell-2] {
					out = append(out, stages(t, made(t, keys, in, 3), kind, cell)...)
				}
			}
		}
	}
	// An operation at each moment of another one, when some cells are removed and one of them is still linked.
	l, _ := ended(t, begun(t, made(t, keys, []bool{true, true, true, false}, 3), 2, api.OpRemove, 4), 2)
	l = after(t, begun(t, l, 2, api.OpRemove, 3), 2, 2)
	for _, l := range stages(t, l, api.OpInsert, 5) {
		other := begun(t, l, 1, api.OpRemove, 2)
		for ok := true; ok; other, ok = Step(other, 1) {
			out = append(out, other)
		}
	}
	return out
}

func wantCheck(t *testing.T, l api.List) {
	t.Helper()
	broken := brokenParts(l)
	if got := Check(l); got != (len(broken) == 0) {
		t.Fatalf("the check of %v is %v, and the parts %v are broken", l, got, broken)
	}
}

func TestP12_6ListsThatAreReached(t *testing.T) {
	for _, l := range reached(t) {
		if !Check(l) {
			t.Errorf("the check of %v is false", l)
		}
	}
}

// TestP12_6AllChangesOfOneField compares Check with the chapter's words for lists that are reached, with one field changed.
func TestP12_6AllChangesOfOneField(t *testing.T) {
	alone := map[int]int{}
	for _, l := range reached(t) {
		n := len(l.Cells)
		examine := func(change func(l api.List)) {
			t.Helper()
			changed := spoil(l, change)
			if !Valid(changed) {
				t.Fatalf("%v is not valid", changed)
			}
			wantCheck(t, changed)
			if broken := brokenParts(changed); len(broken) == 1 {
				alone[broken[0]]++
			}
		}
		for i := range l.Cells {
			for _, field := range indexFields {
				for value := range n {
					examine(func(l api.List) { *field.at(l, i) = value })
				}
			}
			for lock := range 2 {
				examine(func(l api.List) { l.Cells[i].Lock = lock })
				examine(func(l api.List) { l.Cells[i].Lock, l.Cells[i].Gone = lock, !l.Cells[i].Gone })
			}
			examine(func(l api.List) { l.Cells[i].Gone = !l.Cells[i].Gone })
		}
		for p := range l.Procs {
			examine(func(l api.List) { l.Procs[p] = api.Proc{} })
			for _, phase := range phases {
				for _, kind := range kinds {
					examine(func(l api.List) { l.Procs[p].Kind, l.Procs[p].Phase = kind, phase })
				}
			}
		}
	}
	for part := 1; part <= 3; part++ {
		if alone[part] < 50 {
			t.Errorf("the part %d alone is broken only %d times", part, alone[part])
		}
	}
}

// TestP12_6AllLinks examines all links, Locks and marks of two cells, beside an idle process and one that inserts the greater cell.
func TestP12_6AllLinks(t *testing.T) {
	idle, inserting := 0, 0
	for number := range 1 << 16 {
		l := api.List{Procs: make([]api.Proc, 1)}
		for i := range 4 {
			c := api.Cell{Key: []string{"", "", "b", "a"}[i], Right: number >> (2 * i) & 3}
			c.Lock, c.Gone = number>>(8+i)&1, number>>(12+i)&1 == 1
			l.Cells = append(l.Cells, c)
		}
		wantCheck(t, l)
		if Check(l) {
			idle++
		}
		l.Procs[0] = api.Proc{Kind: api.OpInsert, Phase: phases[number%6], Cell: 2}
		wantCheck(t, l)
		if Check(l) {
			inserting++
		}
		l.Procs[0] = api.Proc{Kind: kinds[number%3], Phase: phases[number/3%7], Cell: number / 21 % 4}
		wantCheck(t, l)
	}
	// The tail leads to 4 cells. If both cells are in the chain, each may be Gone: 4 lists. If a is, b has the Lock 0 and any Right
	// or is Gone, with the tail behind it: 2 * 5. If b is, a may also be Gone with b behind it: 2 * 6. If none is: 5 * 5, and 2 in
	// which a is Gone with b behind it. While b is inserted it may also have the Lock 1 and any Right: 2 * 4, and 4 * 5 + 1.
	if want := 4 * (4 + 10 + 12 + 27); idle != want {
		t.Errorf("beside an idle process %d lists pass the check, not %d", idle, want)
	}
	if want := 4 * (4 + 10 + 12 + 27 + 8 + 21); inserting != want {
		t.Errorf("beside an insertion %d lists pass the check, not %d", inserting, want)
	}
}

func TestP12_6AnyLists(t *testing.T) {
	var d dice
	for range 200000 {
		l := d.list()
		wantCheck(t, l)
		// With an exact chain, other parts decide more often.
		at := 0
		for _, i := range orderOf(l) {
			if l.Cells[i].Lock == 1 {
				l.Cells[at].Right = i
				at = i
			}
		}
		l.Cells[0].Lock, l.Cells[0].Gone, l.Cells[1].Lock, l.Cells[1].Gone = 1, false, 1, false
		l.Cells[at].Right = 1
		wantCheck(t, l)
	}
}

// orderOf returns the cells with keys in ascending order.
func orderOf(l api.List) []int {
	at := make([]int, len(l.Cells))
	for i, rank := range ranks(l) {
		at[rank] = i
	}
	return at[1 : len(at)-1]
}

// broken is a change of a list that breaks some parts of Check.
type broken struct {
	name   string
	parts  []int
	change func(l api.List)
}

func wantBroken(t *testing.T, l api.List, changes []broken) {
	t.Helper()
	for _, y := range changes {
		changed := spoil(l, y.change)
		if parts := brokenParts(changed); !slices.Equal(parts, y.parts) {
			t.Errorf("%s: in %v the parts %v are broken, not %v", y.name, changed, parts, y.parts)
		}
		if got := Check(changed); got != (len(y.parts) == 0) {
			t.Errorf("%s: the check of %v is %v", y.name, changed, got)
		}
	}
}

// lets gives a cell a Lock.
func lets(i, lock int) func(l api.List) {
	return func(l api.List) { l.Cells[i].Lock = lock }
}

func TestP12_6Chain(t *testing.T) {
	wantBroken(t, ready(), []broken{
		{"nothing", nil, asFound},
		{"the head leads to itself", []int{1}, leads([2]int{0, 0})},
		{"the head leads to a cell that was never inserted, and that leads back", []int{1}, leads([2]int{0, h})},
		{"a cell leads to itself", []int{1}, leads([2]int{m, m})},
		{"a cell leads back", []int{1, 3}, leads([2]int{x, c})},
		{"a cell leads to the head", []int{1}, leads([2]int{m, 0})},
		{"cells are not in order", []int{1, 3}, leads([2]int{0, x}, [2]int{x, m}, [2]int{m, 1})},
		{"keys are not in order", []int{1}, func(l api.List) { l.Cells[m].Key, l.Cells[c].Key = "c", "m" }},
		{"a member has the Lock 0", []int{1}, lets(m, 0)},
		{"the first member has the Lock 0", []int{1}, lets(c, 0)},
		{"the last member has the Lock 0", []int{1}, lets(x, 0)},
		{"a cell with the Lock 0 is linked", []int{1}, leads([2]int{c, h}, [2]int{h, m})},
		{"the head has the Lock 0", []int{1}, lets(0, 0)},
		{"the tail has the Lock 0", []int{1}, lets(1, 0)},
		{"the head is Gone", []int{1}, marks(0)},
		{"the tail is Gone", []int{1}, marks(1)},
		{"members are Gone and linked", nil, marks(c, m, x)},
		{"a cell that was cut out is linked", nil, leads([2]int{m, s})},
		{"the Right of the tail", nil, leads([2]int{1, m})},
		{"the Right of a cell that was never inserted", nil, leads([2]int{h, c})},
		{"the record of an idle process", nil, func(l api.List) { l.Procs[0] = api.Proc{Cell: m, Pred: m, Succ: m, Next: m, Result: true} }},
	})
	empty := api.List{Cells: cells(member("", 1), member("", 0)), Procs: make([]api.Proc, 1)}
	wantBroken(t, empty, []broken{
		{"nothing", nil, asFound},
		{"the head leads to itself", []int{1}, leads([2]int{0, 0})},
		{"the head has the Lock 0", []int{1}, lets(0, 0)},
		{"the tail has the Lock 0", []int{1}, lets(1, 0)},
		{"the head is Gone", []int{1}, marks(0)},
		{"the tail is Gone", []int{1}, marks(1)},
		{"the tail leads to itself", nil, leads([2]int{1, 1})},
	})
}

func TestP12_6CellsOutOfTheChain(t *testing.T) {
	insertion := func(cell, phase int) func(l api.List) {
		return func(l api.List) {
			l.Procs[1] = proc(api.OpInsert, cell, phase, 0, 0, 0)
		}
	}
	other := func(kind, phase int) func(l api.List) {
		return func(l api.List) {
			lets(h, 1)(l)
			l.Procs[1] = proc(kind, h, phase, 0, 0, 0)
		}
	}
	wantBroken(t, ready(), []broken{
		{"a cell that nobody inserts has the Lock 1", []int{2}, lets(h, 1)},
		{"a cell that was never inserted is Gone", []int{2}, both(marks(h), leads([2]int{h, m}))},
		{"a cell that was removed has the Lock 0", []int{2}, lets(s, 0)},
		{"a cell that was removed is not Gone", []int{2}, func(l api.List) { l.Cells[s].Gone = false }},
		{"a member is left out", []int{2}, leads([2]int{c, x})},
		{"the first member is left out", []int{2}, leads([2]int{0, m})},
		{"the last member is left out", []int{2}, leads([2]int{m, 1})},
		{"all members are left out", []int{2}, leads([2]int{0, 1})},
		{"a member that is Gone is left out", nil, both(marks(m), leads([2]int{c, x}))},
		{"a cell that never was linked, but removed", nil, both(lets(h, 1), marks(h), leads([2]int{h, m}))},
		{"a member is left out that is inserted", nil, both(leads([2]int{c, x}), insertion(m, api.PhaseSwap))},
		{"a member is left out beside another one that is inserted", []int{2}, both(leads([2]int{c, x}), insertion(x, api.PhaseSwap))},
		{"the head is inserted", nil, insertion(0, api.PhaseFind)},
		{"a member is inserted", nil, insertion(m, api.PhaseLink0)},
		{"a cell with the Lock 0 is inserted", nil, insertion(h, api.PhaseFind)},
		{"a cell that is found", []int{2}, other(api.OpFind, api.PhaseFind)},
		{"a cell that is removed", []int{2}, other(api.OpRemove, api.PhaseFind)},
		{"a cell whose insertion has ended", []int{2}, other(api.OpInsert, api.PhaseDone)},
	})
	for _, phase := range phases[:len(phases)-1] {
		wantBroken(t, ready(), []broken{
			{"a cell that is inserted", nil, other(api.OpInsert, phase)},
			{"a cell that is inserted leads to itself", nil, both(other(api.OpInsert, phase), leads([2]int{h, h}))},
			{"a cell that is found in any phase", []int{2}, other(api.OpFind, phase)},
			{"a cell that is removed in any phase", []int{2}, other(api.OpRemove, phase)},
		})
	}
	idle := func(l api.List) {
		lets(h, 1)(l)
		l.Procs[1] = api.Proc{Cell: h}
	}
	wantBroken(t, ready(), []broken{{"a cell that an idle process has", []int{2}, idle}})
}

func TestP12_6CellsThatAreGone(t *testing.T) {
	wantBroken(t, ready(), []broken{
		{"to a member", nil, leads([2]int{s, x})},
		{"to the tail", nil, leads([2]int{s, 1})},
		{"to itself", []int{3}, leads([2]int{s, s})},
		{"to the head", []int{3}, leads([2]int{s, 0})},
		{"to a lesser member", []int{3}, leads([2]int{s, m})},
		{"to the least member", []int{3}, leads([2]int{s, c})},
		{"to a cell that was never inserted, and is less", []int{3}, leads([2]int{s, h}, [2]int{h, m})},
		{"over a cell that was never inserted", nil, both(func(l api.List) { l.Cells[h].Key = "u" }, leads([2]int{s, h}, [2]int{h, x}))},
		{"over a cell that was never inserted, and leads back", []int{3}, both(func(l api.List) { l.Cells[h].Key = "u" }, leads([2]int{s, h}, [2]int{h, m}))},
		{"to a cell that is Gone", nil, both(marks(x), leads([2]int{m, 1}))},
		{"two cells lead on to one another", []int{3}, both(marks(x), leads([2]int{m, 1}, [2]int{x, s}))},
		{"a cell that leads to one of them", nil, both(marks(m), leads([2]int{c, x}, [2]int{m, s}))},
		{"a cell that leads back to one of them", []int{3}, both(marks(x), leads([2]int{m, 1}, [2]int{s, 1}, [2]int{x, s}))},
	})
}

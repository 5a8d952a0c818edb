package lockfree

import (
	"math"
	"slices"
	"testing"

	"skipgraph/api"
)

func TestP12_3Start(t *testing.T) {
	l := made(t, []string{"m", "c", "x"}, []bool{true, true, false}, 3)
	l.Cells[2].Gone = true
	for _, kind := range kinds {
		for cell := 2; cell < 5; cell++ {
			for p := range 3 {
				got, err := Start(l, p, kind, cell)
				if kind == api.OpInsert && cell != 4 {
					// The cell 2 was removed, and the cell 3 is a member.
					if err != api.ErrDuplicate || !isZero(got) {
						t.Errorf("Start of %d, %d, %d is %v, %d", p, kind, cell, got, err)
					}
					continue
				}
				want := clone(l)
				want.Procs[p] = api.Proc{Kind: kind, Cell: cell, Phase: api.PhaseFind, Pred: 0, Succ: 3}
				if kind == api.OpInsert {
					want.Cells[4].Lock = 1
				}
				if err != api.OK || !same(got, want) || !Check(got) {
					t.Errorf("Start of %d, %d, %d is %v, %d, not %v", p, kind, cell, got, err, want)
				}
			}
		}
	}
	empty := begun(t, made(t, []string{"a"}, []bool{false}, 1), 0, api.OpInsert, 2)
	want := api.List{
		Cells: cells(member("", 1), member("", 0), member("a", 0)),
		Procs: procs(api.Proc{Kind: api.OpInsert, Cell: 2, Phase: api.PhaseFind, Succ: 1}),
	}
	if !same(empty, want) {
		t.Errorf("Start in a list without members is %v, not %v", empty, want)
	}
}

func TestP12_3EachCellIsInsertedOnce(t *testing.T) {
	l := made(t, []string{"b", "a"}, []bool{false, true}, 3)
	wantDuplicate := func(p, cell int) {
		t.Helper()
		if got, err := Start(l, p, api.OpInsert, cell); err != api.ErrDuplicate || !isZero(got) {
			t.Errorf("Start of an insertion of %d by %d in %v is %v, %d", cell, p, l, got, err)
		}
	}
	wantDuplicate(0, 3)
	l = begun(t, l, 1, api.OpInsert, 2)
	for l.Procs[1].Phase != api.PhaseDone {
		wantDuplicate(0, 2)
		l = after(t, l, 1, 1)
	}
	wantDuplicate(0, 2)
	wantDuplicate(1, 2)
	for cell := 2; cell < 4; cell++ {
		l = begun(t, l, 2, api.OpRemove, cell)
		for l.Procs[2].Phase != api.PhaseDone {
			wantDuplicate(0, cell)
			l = after(t, l, 2, 1)
		}
		wantDuplicate(0, cell)
		wantDuplicate(2, cell)
	}
	if got := Members(l); len(got) > 0 {
		t.Errorf("the members of %v are %v", l, got)
	}
}

// startInWords returns what Start has to return.
func startInWords(l api.List, p, kind, cell int) (api.List, api.Errno) {
	if p < 0 || p >= len(l.Procs) {
		return api.List{}, api.ErrRange
	}
	if cell < 2 || cell >= len(l.Cells) {
		return api.List{}, api.ErrUnknown
	}
	if !slices.Contains(kinds, kind) {
		return api.List{}, api.ErrInvalid
	}
	if !slices.Contains([]int{api.PhaseIdle, api.PhaseDone}, l.Procs[p].Phase) {
		return api.List{}, api.ErrState
	}
	out := clone(l)
	if kind == api.OpInsert {
		if l.Cells[cell].Lock == 1 {
			return api.List{}, api.ErrDuplicate
		}
		out.Cells[cell].Lock = 1
	}
	out.Procs[p] = api.Proc{Kind: kind, Cell: cell, Phase: api.PhaseFind, Pred: 0, Succ: l.Cells[0].Right}
	return out, api.OK
}

func wantStart(t *testing.T, l api.List, p, kind, cell int) {
	t.Helper()
	got, err := Start(l, p, kind, cell)
	if want, wantErr := startInWords(l, p, kind, cell); err != wantErr || !same(got, want) {
		t.Fatalf("Start of %d, %d, %d in %v is %v, %d, not %v, %d", p, kind, cell, l, got, err, want, wantErr)
	}
}

func TestP12_3StartInAnyLists(t *testing.T) {
	var d dice
	for range 300 {
		l := d.list()
		for p := -1; p < 4; p++ {
			for kind := -1; kind < 6; kind++ {
				for cell := -1; cell < 9; cell++ {
					wantStart(t, l, p, kind, cell)
				}
			}
		}
	}
	l := d.filled(len(samples), api.MaxProcs)
	for p := range l.Procs {
		l.Procs[p] = api.Proc{Kind: api.OpFind, Phase: api.PhaseDone, Cell: 3, Pred: 4, Succ: 5, Next: 6, Result: true}
	}
	for p := range l.Procs {
		for i := range l.Cells {
			wantStart(t, l, p, api.OpInsert, i)
			wantStart(t, l, p, api.OpRemove, i)
		}
	}
}

func TestP12_3FarNumbers(t *testing.T) {
	l := under(t)
	for _, number := range append([]int{-1, math.MaxInt - 1, math.MinInt + 1}, far...) {
		wantStart(t, l, number, api.OpInsert, 2)
		wantStart(t, l, 0, number, 2)
		wantStart(t, l, 0, api.OpInsert, number)
		wantStart(t, l, 1, number, number)
		wantStart(t, l, number, number, number)
	}
}

func TestP12_3Errors(t *testing.T) {
	// Of the cells, 2 and 3 are members, 4 is being inserted, and 5 is not in the list.
	l := begun(t, made(t, []string{"m", "c", "x", "z"}, []bool{true, true, false, false}, 3), 1, api.OpInsert, 4)
	invalid := spoil(l, func(l api.List) { l.Cells[3].Left = 2 })
	for _, x := range []struct {
		l             api.List
		p, kind, cell int
		want          api.Errno
	}{
		{invalid, 0, api.OpRemove, 2, api.ErrInvalid}, {invalid, 9, 9, 9, api.ErrInvalid}, {invalid, 1, api.OpInsert, 2, api.ErrInvalid},
		{l, -1, api.OpRemove, 2, api.ErrRange}, {l, 3, api.OpRemove, 2, api.ErrRange}, {l, 3, 9, 9, api.ErrRange}, {l, -1, api.OpInsert, 4, api.ErrRange},
		{l, 0, api.OpInsert, -1, api.ErrUnknown}, {l, 0, api.OpInsert, 0, api.ErrUnknown}, {l, 0, api.OpInsert, 1, api.ErrUnknown}, {l, 0, api.OpInsert, 6, api.ErrUnknown}, {l, 1, api.OpNone, 1, api.ErrUnknown}, {l, 1, api.OpFind, 6, api.ErrUnknown},
		{l, 0, -1, 2, api.ErrInvalid}, {l, 0, api.OpNone, 2, api.ErrInvalid}, {l, 0, 4, 2, api.ErrInvalid}, {l, 1, 4, 2, api.ErrInvalid},
		{l, 1, api.OpInsert, 2, api.ErrState}, {l, 1, api.OpInsert, 4, api.ErrState}, {l, 1, api.OpInsert, 5, api.ErrState}, {l, 1, api.OpFind, 3, api.ErrState},
		{l, 0, api.OpInsert, 2, api.ErrDuplicate}, {l, 2, api.OpInsert, 3, api.ErrDuplicate}, {l, 0, api.OpInsert, 4, api.ErrDuplicate},
	} {
		if got, err := Start(x.l, x.p, x.kind, x.cell); err != x.want || !isZero(got) {
			t.Errorf("Start of %d, %d, %d in %v is %v, %d, not the error %d", x.p, x.kind, x.cell, x.l, got, err, x.want)
		}
	}
	for _, x := range [][2]int{{api.OpInsert, 5}, {api.OpRemove, 2}, {api.OpRemove, 4}, {api.OpRemove, 5}, {api.OpFind, 3}, {api.OpFind, 4}, {api.OpFind, 5}} {
		if _, err := Start(l, 0, x[0], x[1]); err != api.OK {
			t.Errorf("Start of %v in %v has the error %d", x, l, err)
		}
	}
}

func TestP12_3StartInAllPhases(t *testing.T) {
	for _, phase := range append([]int{api.PhaseIdle}, phases...) {
		l := made(t, []string{"m", "c", "x"}, []bool{true, true, false}, 2)
		l.Procs[1] = api.Proc{Kind: api.OpRemove, Cell: 3, Phase: phase, Pred: 2, Succ: 4, Next: 1, Result: true}
		if phase == api.PhaseIdle {
			l.Procs[1].Kind = api.OpNone
		}
		got, err := Start(l, 1, api.OpInsert, 4)
		if phase != api.PhaseIdle && phase != api.PhaseDone {
			if err != api.ErrState || !isZero(got) {
				t.Errorf("Start in the phase %d is %v, %d", phase, got, err)
			}
		} else if want := (api.Proc{Kind: api.OpInsert, Cell: 4, Phase: api.PhaseFind, Succ: 3}); err != api.OK || got.Procs[1] != want {
			t.Errorf("Start in the phase %d is %v, %d", phase, got, err)
		}
		// The other process is idle all the time.
		wantStart(t, l, 0, api.OpFind, 2)
	}
}

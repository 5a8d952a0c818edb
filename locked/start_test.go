package locked

import (
	"math"
	"slices"
	"testing"

	"skipgraph/api"
)

func TestP11_3Start(t *testing.T) {
	l := made(t, []string{"m", "c", "x"}, []bool{true, true, false}, 3)
	for _, kind := range kinds {
		for cell := 2; cell < 5; cell++ {
			for p := range 3 {
				got, err := Start(l, p, kind, cell)
				want := clone(l)
				want.Procs[p] = api.Proc{Kind: kind, Cell: cell, Phase: api.PhaseFind, Pred: 0, Succ: 3}
				if err != api.OK || !same(got, want) || !Check(got) {
					t.Errorf("Start of %d, %d, %d is %v, %d, not %v", p, kind, cell, got, err, want)
				}
			}
		}
	}
	empty, err := Start(made(t, []string{"a"}, []bool{false}, 1), 0, api.OpInsert, 2)
	if want := (api.Proc{Kind: api.OpInsert, Cell: 2, Phase: api.PhaseFind, Succ: 1}); err != api.OK || !slices.Equal(empty.Procs, procs(want)) {
		t.Errorf("Start in a list without members is %v, %d", empty, err)
	}
}

// startInWords returns what Start has to return.
func startInWords(l api.List, p, kind, cell int) (api.List, api.Errno) {
	if p < 0 || p >= len(l.Procs) {
		return api.List{}, api.ErrRange
	}
	if cell < 2 || cell >= len(l.Cells) {
		return api.List{}, api.ErrUnknown
	}
	if !slices.Contains(kinds, kind) {
		return api.List{}, api.ErrInvalid
	}
	if l.Procs[p].Phase != api.PhaseIdle && l.Procs[p].Phase != api.PhaseDone {
		return api.List{}, api.ErrState
	}
	out := clone(l)
	out.Procs[p] = api.Proc{Kind: kind, Cell: cell, Phase: api.PhaseFind, Pred: 0, Succ: l.Cells[0].Right}
	return out, api.OK
}

func wantStart(t *testing.T, l api.List, p, kind, cell int) {
	t.Helper()
	got, err := Start(l, p, kind, cell)
	if want, wantErr := startInWords(l, p, kind, cell); err != wantErr || !same(got, want) {
		t.Fatalf("Start of %d, %d, %d in %v is %v, %d, not %v, %d", p, kind, cell, l, got, err, want, wantErr)
	}
}

func TestP11_3StartInAnyLists(t *testing.T) {
	var d dice
	for range 300 {
		l := d.list()
		for p := -1; p < 4; p++ {
			for kind := -1; kind < 6; kind++ {
				for cell := -1; cell < 9; cell++ {
					wantStart(t, l, p, kind, cell)
				}
			}
		}
	}
	l := d.filled(len(samples), api.MaxProcs)
	for p := range l.Procs {
		l.Procs[p] = api.Proc{Kind: api.OpFind, Phase: api.PhaseDone, Cell: 3, Pred: 4, Succ: 5, Next: 6, Result: true}
	}
	for p := range l.Procs {
		for i := range l.Cells {
			wantStart(t, l, p, api.OpInsert, i)
		}
	}
}

func TestP11_3FarNumbers(t *testing.T) {
	l := under(t)
	for _, number := range append([]int{-1, math.MaxInt - 1, math.MinInt + 1}, far...) {
		wantStart(t, l, number, api.OpInsert, 2)
		wantStart(t, l, 0, number, 2)
		wantStart(t, l, 0, api.OpInsert, number)
		wantStart(t, l, 1, number, number)
		wantStart(t, l, number, number, number)
	}
}

func TestP11_3Errors(t *testing.T) {
	l := under(t)
	invalid := spoil(l, func(l api.List) { l.Cells[3].Left = -1 })
	for _, x := range []struct {
		l             api.List
		p, kind, cell int
		want          api.Errno
	}{
		{invalid, 0, api.OpInsert, 2, api.ErrInvalid}, {invalid, 9, 9, 9, api.ErrInvalid}, {invalid, 1, api.OpFind, 2, api.ErrInvalid},
		{l, -1, api.OpInsert, 2, api.ErrRange}, {l, 3, api.OpInsert, 2, api.ErrRange}, {l, 3, 9, 9, api.ErrRange},
		{l, 0, api.OpInsert, -1, api.ErrUnknown}, {l, 0, api.OpInsert, 0, api.ErrUnknown}, {l, 0, api.OpInsert, 1, api.ErrUnknown}, {l, 0, api.OpInsert, 5, api.ErrUnknown}, {l, 1, api.OpNone, 1, api.ErrUnknown},
		{l, 0, -1, 2, api.ErrInvalid}, {l, 0, api.OpNone, 2, api.ErrInvalid}, {l, 0, 4, 2, api.ErrInvalid}, {l, 1, 4, 2, api.ErrInvalid},
		{l, 1, api.OpInsert, 2, api.ErrState}, {l, 1, api.OpInsert, 4, api.ErrState}, {l, 1, api.OpFind, 3, api.ErrState},
	} {
		if got, err := Start(x.l, x.p, x.kind, x.cell); err != x.want || !isZero(got) {
			t.Errorf("Start of %d, %d, %d in %v is %v, %d, not the error %d", x.p, x.kind, x.cell, x.l, got, err, x.want)
		}
	}
}

func TestP11_3StartInAllPhases(t *testing.T) {
	for _, phase := range append([]int{api.PhaseIdle}, phases...) {
		l := made(t, []string{"m", "c", "x"}, []bool{true, true, false}, 2)
		l.Procs[1] = api.Proc{Kind: api.OpRemove, Cell: 3, Phase: phase, Pred: 2, Succ: 4, Next: 1, Result: true}
		if phase == api.PhaseIdle {
			l.Procs[1].Kind = api.OpNone
		}
		got, err := Start(l, 1, api.OpFind, 4)
		if phase != api.PhaseIdle && phase != api.PhaseDone {
			if err != api.ErrState || !isZero(got) {
				t.Errorf("Start in the phase %d is %v, %d", phase, got, err)
			}
		} else if want := (api.Proc{Kind: api.OpFind, Cell: 4, Phase: api.PhaseFind, Succ: 3}); err != api.OK || got.Procs[1] != want {
			t.Errorf("Start in the phase %d is %v, %d", phase, got, err)
		}
		// The other process is idle all the time.
		wantStart(t, l, 0, api.OpInsert, 2)
	}
}

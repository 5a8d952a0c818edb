package join

import (
	"math"
	"slices"
	"testing"

	"skipgraph/api"
	"skipgraph/locked"
)

// TestP13_2Start examines that a climber begins at the level 0 or Height, and that nothing else changes.
func TestP13_2Start(t *testing.T) {
	for height := range api.MaxLevels + 1 {
		f := made(t, four(), []int{4, 9}, 3, height)
		for i, id := range []int{7, 2, 9, 4} {
			kind, level := api.OpInsert, 0
			if i >= 2 {
				kind, level = api.OpRemove, height
			}
			for p := range 3 {
				want := clone(f)
				want.Climbers[p] = api.Climber{Kind: kind, Node: id, Level: level}
				x := layerOf(&want, level, id)
				cell := 2 + slices.Index(x.Nodes, id)
				x.List.Procs[p] = api.Proc{Kind: kind, Cell: cell, Phase: api.PhaseFind, Succ: x.List.Cells[0].Right}
				if list, err := locked.Start(layerOf(&f, level, id).List, p, kind, cell); err != api.OK || !sameList(list, x.List) {
					t.Fatalf("the list is %v, not %v", x.List, list)
				}
				if got, err := Start(f, p, kind, id); err != api.OK || !same(got, want) || !Check(got) {
					t.Errorf("Start of %d, %d, %d is %v, %d, not %v", p, kind, id, got, err, want)
				}
			}
		}
	}
}

func TestP13_2Errors(t *testing.T) {
	f := under(t)
	f = begun(t, f, 2, api.OpRemove, 9)
	invalid := spoil(f, func(f *api.Forest) { f.Climbers[0].Level = 1 })
	for _, x := range []struct {
		f           api.Forest
		p, kind, id int
		want        api.Errno
	}{
		{invalid, 0, api.OpInsert, 7, api.ErrInvalid}, {invalid, 9, 9, 9, api.ErrInvalid}, {invalid, 9, 9, 1, api.ErrInvalid}, {invalid, 1, api.OpInsert, 4, api.ErrInvalid},
		{f, -1, api.OpInsert, 7, api.ErrRange}, {f, 3, api.OpInsert, 7, api.ErrRange}, {f, 3, 9, 1, api.ErrRange}, {f, -1, 9, 2, api.ErrRange},
		{f, 0, api.OpInsert, 1, api.ErrUnknown}, {f, 0, api.OpRemove, 0, api.ErrUnknown}, {f, 0, 9, -7, api.ErrUnknown}, {f, 1, 9, 8, api.ErrUnknown}, {f, 1, api.OpInsert, 3, api.ErrUnknown},
		{f, 0, -1, 7, api.ErrInvalid}, {f, 0, api.OpNone, 7, api.ErrInvalid}, {f, 0, api.OpFind, 7, api.ErrInvalid}, {f, 0, 4, 7, api.ErrInvalid}, {f, 1, 4, 2, api.ErrInvalid}, {f, 2, api.OpFind, 2, api.ErrInvalid}, {f, 0, api.OpNone, 4, api.ErrInvalid},
		{f, 1, api.OpInsert, 7, api.ErrState}, {f, 1, api.OpInsert, 2, api.ErrState}, {f, 1, api.OpInsert, 9, api.ErrState}, {f, 2, api.OpRemove, 9, api.ErrState}, {f, 2, api.OpInsert, 4, api.ErrState}, {f, 2, api.OpRemove, 7, api.ErrState},
		{f, 0, api.OpInsert, 2, api.ErrBusy}, {f, 0, api.OpRemove, 2, api.ErrBusy}, {f, 0, api.OpInsert, 9, api.ErrBusy}, {f, 0, api.OpRemove, 9, api.ErrBusy},
		{f, 0, api.OpInsert, 4, api.ErrDuplicate}, {f, 0, api.OpRemove, 7, api.ErrMissing}, {f, 0, api.OpInsert, 7, api.OK}, {f, 0, api.OpRemove, 4, api.OK},
	} {
		if got, err := Start(x.f, x.p, x.kind, x.id); err != x.want || (err != api.OK) != isZero(got) {
			t.Errorf("Start of %d, %d, %d in %v is %v, %d, not the error %d", x.p, x.kind, x.id, x.f, got, err, x.want)
		}
	}
}

func TestP13_2FarNumbers(t *testing.T) {
	f := under(t)
	for _, number := range append([]int{-2, math.MaxInt - 1, math.MinInt + 1}, far...) {
		wantStart(t, f, number, api.OpInsert, 7)
		wantStart(t, f, 0, number, 7)
		wantStart(t, f, 0, api.OpInsert, number)
		wantStart(t, f, 1, number, number)
		wantStart(t, f, number, number, number)
		for _, number := range []int{number + 1, number + 2, number + 4, number - 2} {
			wantStart(t, f, 0, number, 7)
			wantStart(t, f, 0, api.OpInsert, number)
		}
	}
}

// TestP13_2MembersOfLevel0 examines that only the list of level 0 tells whether a node is there.
func TestP13_2MembersOfLevel0(t *testing.T) {
	for in := range 1 << 3 {
		f := made(t, four(), []int{4, 2, 9}, 1, 2)
		for level := range 3 {
			cellOf(&f, level, 9).Gone = in>>level&1 == 0
		}
		want := map[bool][2]api.Errno{true: {api.ErrDuplicate, api.OK}, false: {api.OK, api.ErrMissing}}[in&1 == 1]
		for i, kind := range kinds {
			if _, err := Start(f, 0, kind, 9); err != want[i] {
				t.Errorf("Start of %d in %v has the error %d, not %d", kind, f, err, want[i])
			}
			wantStart(t, f, 0, kind, 9)
		}
	}
}

// TestP13_2ErrorsOfTheList examines processes that are under way although their climbers are idle.
func TestP13_2ErrorsOfTheList(t *testing.T) {
	for phase := api.PhaseIdle; phase <= api.PhaseDone; phase++ {
		for _, kind := range []int{api.OpNone, api.OpInsert, api.OpRemove, api.OpFind} {
			for p := range 2 {
				for level := range 3 {
					for _, id := range []int{9, 7} {
						f := made(t, four(), []int{4, 9}, 2, 2)
						layerOf(&f, level, 9).List.Procs[p] = api.Proc{Kind: kind, Phase: phase, Cell: 2, Pred: 1, Succ: 2, Next: 1, Result: true}
						wantStart(t, f, 0, api.OpInsert, id)
						wantStart(t, f, 0, api.OpRemove, id)
						wantStart(t, f, 1, api.OpInsert, id)
					}
				}
			}
		}
	}
	busy := func(level, p int) api.Forest {
		return spoil(made(t, four(), []int{4, 9}, 2, 2), func(f *api.Forest) {
			layerOf(f, level, 9).List.Procs[p] = api.Proc{Kind: api.OpFind, Phase: api.PhaseFind, Cell: 3}
		})
	}
	for _, x := range []struct {
		f           api.Forest
		p, kind, id int
		want        api.Errno
	}{
		{busy(0, 0), 0, api.OpInsert, 7, api.ErrState}, {busy(0, 0), 0, api.OpInsert, 2, api.ErrState}, {busy(0, 1), 0, api.OpInsert, 7, api.OK},
		{busy(1, 0), 0, api.OpInsert, 7, api.OK}, {busy(2, 0), 0, api.OpInsert, 7, api.OK}, {busy(0, 0), 0, api.OpRemove, 9, api.OK},
		{busy(2, 0), 0, api.OpRemove, 9, api.ErrState}, {busy(2, 0), 0, api.OpRemove, 4, api.OK}, {busy(2, 1), 0, api.OpRemove, 9, api.OK},
		// Whether the node is there comes first.
		{busy(0, 0), 0, api.OpInsert, 9, api.ErrDuplicate}, {busy(2, 0), 0, api.OpRemove, 7, api.ErrMissing},
	} {
		if got, err := Start(x.f, x.p, x.kind, x.id); err != x.want || (err != api.OK) != isZero(got) {
			t.Errorf("Start of %d, %d, %d in %v is %v, %d, not the error %d", x.p, x.kind, x.id, x.f, got, err, x.want)
		}
	}
}

func TestP13_2StartInAnyForests(t *testing.T) {
	var d dice
	for range 10000 {
		f := d.forest()
		for _, x := range f.Nodes {
			for _, kind := range kinds {
				wantStart(t, f, d.below(len(f.Climbers)), kind, x.ID)
			}
		}
	}
}

// TestP13_2StartAgain lets a climber work one time after another.
func TestP13_2StartAgain(t *testing.T) {
	f := made(t, four(), nil, 2, 2)
	for i, id := range []int{7, 4, 2, 9, 4, 2, 7, 9} {
		kind := kinds[i/4]
		f = begun(t, f, 1, kind, id)
		for _, other := range kinds {
			if _, err := Start(f, 1, other, id); err != api.ErrState {
				t.Errorf("Start in %v has the error %d", f, err)
			}
			if _, err := Start(f, 0, other, id); err != api.ErrBusy {
				t.Errorf("Start in %v has the error %d", f, err)
			}
		}
		f = ended(t, f, 1)
		want := map[int]api.Errno{api.OpInsert: api.ErrDuplicate, api.OpRemove: api.ErrMissing}[kind]
		if _, err := Start(f, 0, kind, id); err != want {
			t.Errorf("Start in %v has the error %d, not %d", f, err, want)
		}
	}
}

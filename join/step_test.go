package join

import (
	"slices"
	"testing"

	"skipgraph/api"
	"skipgraph/ideal"
	"skipgraph/locked"
)

// stop is what can be seen of a climber after a step: its level and the phase of its process there.
type stop struct{ level, phase int }

// stops returns the stops of a climber from its start to its end.
func stops(t *testing.T, f api.Forest, p int) []stop {
	t.Helper()
	var out []stop
	for f.Climbers[p].Kind != api.OpNone {
		c := f.Climbers[p]
		out = append(out, stop{c.Level, processOf(f, p).Phase})
		next, ok := Step(f, p)
		if !ok {
			t.Fatalf("%d makes no step in %v", p, f)
		}
		wantStep(t, f, p)
		if after := next.Climbers[p]; after != (api.Climber{}) && (after.Kind != c.Kind || after.Node != c.Node) {
			t.Fatalf("the climber is %v, and was %v", after, c)
		}
		f = next
	}
	if !Check(f) || f.Climbers[p] != (api.Climber{}) {
		t.Fatalf("at the end the forest is %v", f)
	}
	return out
}

// at returns stops at a level in some phases.
func at(level int, phases ...int) []stop {
	var out []stop
	for _, phase := range phases {
		out = append(out, stop{level, phase})
	}
	return out
}

var (
	linking   = []int{api.PhaseFind, api.PhaseLockPred, api.PhaseLockSucc, api.PhaseCheck, api.PhaseLink0, api.PhaseLink1, api.PhaseLink2, api.PhaseRelease, api.PhaseDone}
	unlinking = []int{api.PhaseFind, api.PhaseLockPred, api.PhaseLockSucc, api.PhaseCheck, api.PhaseLockNext, api.PhaseUnlink0, api.PhaseUnlink1, api.PhaseUnlink2, api.PhaseRelease, api.PhaseDone}
	idling    = []int{api.PhaseFind, api.PhaseLockPred, api.PhaseLockSucc, api.PhaseCheck, api.PhaseRelease, api.PhaseDone}
)

// farther returns phases with so many steps more to find a place.
func farther(n int, phases []int) []int {
	return append(slices.Repeat([]int{api.PhaseFind}, n), phases...)
}

func TestP13_3Joining(t *testing.T) {
	// The order of the Keys is 4, 2, 7, 9.
	for _, x := range []struct {
		id     int
		in     []int
		height int
		want   []stop
	}{
		{2, []int{4, 7, 9}, 2, slices.Concat(at(0, farther(1, linking)...), at(1, linking...), at(2, linking...))},
		{9, []int{4, 2, 7}, 2, slices.Concat(at(0, farther(3, linking)...), at(1, farther(2, linking)...), at(2, farther(1, linking)...))},
		{4, []int{2, 7, 9}, 1, slices.Concat(at(0, linking...), at(1, linking...))},
		{7, []int{4}, 0, at(0, farther(1, linking)...)},
		{7, nil, 0, at(0, linking...)},
		{7, []int{2, 9}, 3, slices.Concat(at(0, farther(1, linking)...), at(1, farther(1, linking)...), at(2, linking...), at(3, linking...))},
	} {
		f := begun(t, made(t, four(), x.in, 2, x.height), 1, api.OpInsert, x.id)
		if got := stops(t, f, 1); !slices.Equal(got, x.want) {
			t.Errorf("%d joins %v with the stops %v, not %v", x.id, x.in, got, x.want)
		}
		f = ended(t, f, 1)
		want, _ := ideal.Build(without(four(), numbers(without(four(), append(x.in, x.id)...))...), x.height)
		if got := Links(f); !sameLinks(got, want) {
			t.Errorf("after %d has joined %v the links are %v, not %v", x.id, x.in, got, want)
		}
	}
}

func TestP13_3Leaving(t *testing.T) {
	for _, x := range []struct {
		id     int
		in     []int
		height int
		want   []stop
	}{
		{2, []int{4, 2, 7, 9}, 2, slices.Concat(at(2, unlinking...), at(1, unlinking...), at(0, farther(1, unlinking)...))},
		{9, []int{4, 2, 7, 9}, 2, slices.Concat(at(2, farther(1, unlinking)...), at(1, farther(2, unlinking)...), at(0, farther(3, unlinking)...))},
		{4, []int{4, 7, 9}, 1, slices.Concat(at(1, unlinking...), at(0, unlinking...))},
		{7, []int{4, 7}, 0, at(0, farther(1, unlinking)...)},
		{7, []int{7}, 0, at(0, unlinking...)},
	} {
		f := begun(t, made(t, four(), x.in, 2, x.height), 0, api.OpRemove, x.id)
		if got := stops(t, f, 0); !slices.Equal(got, x.want) {
			t.Errorf("%d leaves %v with the stops %v, not %v", x.id, x.in, got, x.want)
		}
		f = ended(t, f, 0)
		want, _ := ideal.Build(without(without(four(), numbers(without(four(), x.in...))...), x.id), x.height)
		if got := Links(f); !sameLinks(got, want) {
			t.Errorf("after %d has left %v the links are %v, not %v", x.id, x.in, got, want)
		}
	}
}

// TestP13_3NothingToDo examines climbers whose nodes already are what they are to become, at levels above 0.
func TestP13_3NothingToDo(t *testing.T) {
	f := made(t, four(), []int{4, 2, 7}, 1, 2)
	layerOf(&f, 1, 9).List = made(t, four(), []int{4, 2, 7, 9}, 1, 2).Layers[2].List
	f = begun(t, f, 0, api.OpInsert, 9)
	want := slices.Concat(at(0, farther(3, linking)...), at(1, farther(2, idling)...), at(2, farther(1, linking)...))
	if got := stops(t, f, 0); !slices.Equal(got, want) {
		t.Errorf("the stops are %v, not %v", got, want)
	}
	f = made(t, four(), []int{4, 2, 7, 9}, 1, 2)
	layerOf(&f, 1, 9).List = made(t, four(), []int{4, 2, 7}, 1, 2).Layers[2].List
	f = begun(t, f, 0, api.OpRemove, 9)
	want = slices.Concat(at(2, farther(1, unlinking)...), at(1, farther(2, idling)...), at(0, farther(3, unlinking)...))
	if got := stops(t, f, 0); !slices.Equal(got, want) {
		t.Errorf("the stops are %v, not %v", got, want)
	}
}

// wantNoStep examines that a climber makes no step.
func wantNoStep(t *testing.T, f api.Forest, p int) {
	t.Helper()
	if got, ok := Step(f, p); ok || !same(got, f) {
		t.Errorf("the step of %d in %v is %v, %v", p, f, got, ok)
	}
}

func TestP13_3NoClimber(t *testing.T) {
	for _, f := range []api.Forest{under(t), made(t, nil, nil, 1, 3), made(t, four(), nil, api.MaxProcs, 0)} {
		for _, p := range append([]int{-2, -1, len(f.Climbers), len(f.Climbers) + 1}, far...) {
			wantNoStep(t, f, p)
		}
	}
}

func TestP13_3IdleClimbers(t *testing.T) {
	f := under(t)
	wantNoStep(t, f, 0)
	wantNoStep(t, f, 2)
	wantNoStep(t, ended(t, f, 1), 1)
	wantNoStep(t, made(t, nil, nil, 1, 3), 0)
	// Processes that are under way without a climber.
	for phase := api.PhaseFind; phase <= api.PhaseDone; phase++ {
		f := under(t)
		for i := range f.Layers {
			f.Layers[i].List.Procs[0] = api.Proc{Kind: api.OpInsert, Cell: 2, Phase: phase}
			f.Layers[i].List.Procs[2] = api.Proc{Kind: api.OpRemove, Cell: 2, Phase: phase}
		}
		if phase < api.PhaseClean || phase == api.PhaseDone {
			wantNoStep(t, f, 0)
			wantNoStep(t, f, 2)
		}
	}
}

// TestP13_3Waiting examines climbers that wait for each other in one list, but not in different ones.
func TestP13_3Waiting(t *testing.T) {
	for level := range 3 {
		f := made(t, four(), nil, 2, 2)
		f = begun(t, begun(t, f, 0, api.OpInsert, 7), 1, api.OpInsert, 9)
		f = until(t, until(t, f, 0, level, api.PhaseLockPred), 1, level, api.PhaseLockPred)
		f = after(t, f, 0, 1)
		wantNoStep(t, f, 1)
		f = after(t, f, 0, 1)
		wantNoStep(t, f, 1)
		if !Check(f) || f.Climbers[1] != (api.Climber{Kind: api.OpInsert, Node: 9, Level: level}) {
			t.Errorf("the forest is %v", f)
		}
		f = until(t, f, 0, level, api.PhaseRelease)
		wantNoStep(t, f, 1)
		f = after(t, f, 0, 1)
		f = ended(t, ended(t, f, 1), 0)
		if got := Present(f, 2); !slices.Equal(got, []int{7, 9}) {
			t.Errorf("at the end the nodes %v are present", got)
		}
	}
	// At level 1, the node 4 is in another list.
	f := begun(t, begun(t, made(t, four(), nil, 2, 2), 0, api.OpInsert, 4), 1, api.OpInsert, 9)
	f = until(t, until(t, f, 0, 1, api.PhaseLink0), 1, 1, api.PhaseLink0)
	if got := Present(f, 0); !slices.Equal(got, []int{4, 9}) || len(Present(f, 1)) > 0 {
		t.Errorf("the forest is %v", f)
	}
}

// process returns a record of a process, which may be that of another operation than its climber's.
func process(kind, cell, phase int) api.Proc { return api.Proc{Kind: kind, Cell: cell, Phase: phase} }

// TestP13_3GoingOn examines the steps between levels.
func TestP13_3GoingOn(t *testing.T) {
	for height := range api.MaxLevels + 1 {
		for level := range height + 1 {
			for _, kind := range kinds {
				f := made(t, four(), []int{4, 9}, 2, height)
				c := api.Climber{Kind: kind, Node: 7, Level: level}
				f.Climbers[1] = c
				// Whatever the process did, it is done.
				layerOf(&f, level, 7).List.Procs[1] = process(api.OpFind, 2, api.PhaseDone)
				want := clone(f)
				want.Climbers[1] = api.Climber{}
				next := level + map[int]int{api.OpInsert: 1, api.OpRemove: -1}[kind]
				if next >= 0 && next <= height {
					want.Climbers[1] = api.Climber{Kind: kind, Node: 7, Level: next}
					x := layerOf(&want, next, 7)
					x.List, _ = locked.Start(x.List, 1, kind, 2+slices.Index(x.Nodes, 7))
				}
				if got, ok := Step(f, 1); !ok || !same(got, want) {
					t.Errorf("the step of %v is %v, %v, not %v", c, got, ok, want)
				}
			}
		}
	}
}

// TestP13_3GoingOnToAListThatIsNotReady examines a climber whose next level answers with an error.
func TestP13_3GoingOnToAListThatIsNotReady(t *testing.T) {
	for _, kind := range kinds {
		for phase := api.PhaseIdle; phase <= api.PhaseRelease; phase++ {
			f := made(t, four(), []int{4, 9}, 2, 2)
			f.Climbers[0] = api.Climber{Kind: kind, Node: 7, Level: 1}
			layerOf(&f, 1, 7).List.Procs[0] = process(kind, 2, api.PhaseDone)
			next := layerOf(&f, map[int]int{api.OpInsert: 2, api.OpRemove: 0}[kind], 7)
			if phase > api.PhaseIdle {
				next.List.Procs[0] = process(api.OpInsert, 2, phase)
				wantNoStep(t, f, 0)
			} else if _, ok := Step(f, 0); !ok {
				t.Errorf("%d does not go on in %v", kind, f)
			}
			// The process with another index, and those of other levels, do not matter.
			next.List.Procs[0], next.List.Procs[1] = process(api.OpFind, 2, api.PhaseDone), process(api.OpRemove, 3, api.PhaseFind)
			layerOf(&f, map[int]int{api.OpInsert: 0, api.OpRemove: 2}[kind], 7).List.Procs[0] = process(api.OpInsert, 2, api.PhaseFind)
			if got, ok := Step(f, 0); !ok || processOf(got, 0).Phase != api.PhaseFind || processOf(got, 0).Kind != kind {
				t.Errorf("%d does not go on in %v", kind, f)
			}
			wantStep(t, f, 0)
		}
	}
}

// TestP13_3ProcessesOfOtherOperations examines that a climber lets its process step, whatever that does.
func TestP13_3ProcessesOfOtherOperations(t *testing.T) {
	for _, kind := range kinds {
		for level := range 3 {
			f := made(t, four(), []int{4, 9}, 2, 2)
			f.Climbers[0] = api.Climber{Kind: kind, Node: 7, Level: level}
			// An idle process does nothing.
			wantNoStep(t, f, 0)
			x := layerOf(&f, level, 7)
			x.List.Procs[0] = process(api.OpFind, 3, api.PhaseFind)
			x.List.Procs[0].Succ = x.List.Cells[0].Right
			list, ok := locked.Step(x.List, 0)
			want := spoil(f, func(f *api.Forest) { layerOf(f, level, 7).List = list })
			if got, gotOK := Step(f, 0); !ok || !gotOK || !same(got, want) {
				t.Errorf("the step of a process that finds is %v, %v, not %v", got, gotOK, want)
			}
			// The climber of another list leaves it alone.
			f.Climbers[0].Level = (level + 1) % 3
			wantNoStep(t, f, 0)
		}
	}
}

// TestP13_3OnlyOneListChanges examines which parts of a forest a step changes.
func TestP13_3OnlyOneListChanges(t *testing.T) {
	f := begun(t, begun(t, made(t, four(), []int{4, 9}, 2, 2), 0, api.OpInsert, 7), 1, api.OpRemove, 4)
	var d dice
	for Bound(f) > 0 {
		p := d.below(2)
		next, ok := Step(f, p)
		changed := 0
		for i := range f.Layers {
			if !sameLayer(f.Layers[i], next.Layers[i]) {
				changed++
			}
		}
		if !slices.Equal(f.Nodes, next.Nodes) || f.Height != next.Height || f.Climbers[1-p] != next.Climbers[1-p] || changed > 1 || ok == same(f, next) {
			t.Fatalf("a step leads from %v to %v", f, next)
		}
		f = next
	}
}

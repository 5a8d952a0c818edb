package join

import (
	"slices"
	"testing"

	"skipgraph/api"
	"skipgraph/locked"
)

// reached returns forests to which New, Start and Step lead.
func reached(t *testing.T) []api.Forest {
	t.Helper()
	out := []api.Forest{made(t, nil, nil, 1, 2), made(t, four(), nil, 2, 1)}
	for _, x := range []struct{ kind, id int }{{api.OpInsert, 7}, {api.OpRemove, 9}} {
		f := begun(t, made(t, four(), []int{4, 9}, 2, 2), 0, x.kind, x.id)
		for ; f.Climbers[0].Kind != api.OpNone; f = after(t, f, 0, 1) {
			out = append(out, f)
		}
		out = append(out, f)
	}
	// Two climbers at once.
	f := begun(t, begun(t, made(t, four()[1:], []int{4, 9}, 2, 1), 0, api.OpInsert, 2), 1, api.OpRemove, 9)
	var d dice
	for Bound(f) > 0 {
		out = append(out, f)
		f, _ = Step(f, d.below(2))
	}
	return out
}

func TestP13_5ForestsThatAreReached(t *testing.T) {
	for _, f := range reached(t) {
		if !Check(f) {
			t.Errorf("the check of %v is false", f)
		}
	}
}

// TestP13_5AllChangesOfOneField compares Check with the chapter's words for forests that are reached, with one field changed.
func TestP13_5AllChangesOfOneField(t *testing.T) {
	alone := map[int]int{}
	for _, f := range reached(t) {
		examine := func(change func(f *api.Forest)) {
			t.Helper()
			changed := spoil(f, change)
			wantCheck(t, changed)
			if broken := brokenParts(changed); len(broken) == 1 {
				alone[broken[0]]++
			}
		}
		for i, x := range f.Layers {
			for k := range x.List.Cells {
				for value := range len(x.List.Cells) + 1 {
					examine(func(f *api.Forest) { f.Layers[i].List.Cells[k].Left = value })
					examine(func(f *api.Forest) { f.Layers[i].List.Cells[k].Right = value })
				}
				for lock := range len(f.Climbers) + 2 {
					examine(func(f *api.Forest) { f.Layers[i].List.Cells[k].Lock = lock })
				}
				examine(func(f *api.Forest) { f.Layers[i].List.Cells[k].Gone = !x.List.Cells[k].Gone })
			}
			for p := range f.Climbers {
				examine(func(f *api.Forest) { f.Layers[i].List.Procs[p] = api.Proc{} })
				for phase := range api.PhaseDone + 2 {
					examine(func(f *api.Forest) { f.Layers[i].List.Procs[p].Phase = phase })
				}
			}
			examine(func(f *api.Forest) { f.Layers[i].Level++ })
			examine(func(f *api.Forest) { f.Layers[i].Word++ })
		}
		for p := range f.Climbers {
			for level := -1; level <= f.Height+1; level++ {
				examine(func(f *api.Forest) { f.Climbers[p].Level = level })
			}
			for kind := range 4 {
				examine(func(f *api.Forest) { f.Climbers[p].Kind = kind })
			}
			examine(func(f *api.Forest) { f.Climbers[p] = api.Climber{} })
		}
	}
	for _, part := range []int{partValid, partLists} {
		if alone[part] < 100 {
			t.Errorf("the part %d alone is broken only %d times", part, alone[part])
		}
	}
}

// TestP13_5AllMembers examines all members of the lists of three nodes at three levels.
func TestP13_5AllMembers(t *testing.T) {
	for _, nodes := range [][]api.Node{with(0, 0, 0), with(0, 1, 2), with(3, 1, 5), four()[1:]} {
		for _, height := range []int{0, 1, 2} {
			passed := 0
			for in := range 1 << (3 * (height + 1)) {
				f := made(t, nodes, nil, 1, height)
				for level := range height + 1 {
					copyLevel(&f, made(t, nodes, numbers(some(nodes, in>>(3*level)&7)), 1, height), level)
				}
				wantCheck(t, f)
				if Check(f) {
					passed++
				}
			}
			// Each node is at no level, or up to one of them.
			want := (height + 2) * (height + 2) * (height + 2)
			if passed != want {
				t.Errorf("of the forests of %v with the height %d only %d pass the check, not %d", nodes, height, passed, want)
			}
		}
	}
}

// copyLevel gives f the lists that another forest has at a level.
func copyLevel(f *api.Forest, other api.Forest, level int) {
	for i := range f.Layers {
		if f.Layers[i].Level == level {
			f.Layers[i].List = other.Layers[i].List
		}
	}
}

func TestP13_5AnyForests(t *testing.T) {
	var d dice
	for range 20000 {
		wantCheck(t, d.forest())
	}
}

// TestP13_5ManyLevels lets a node be missing at each level.
func TestP13_5ManyLevels(t *testing.T) {
	for _, nodes := range [][]api.Node{four(), alike(5), many(20)} {
		all := made(t, nodes, numbers(nodes), 1, api.MaxLevels)
		for _, x := range nodes {
			lacking := made(t, nodes, numbers(without(nodes, x.ID)), 1, api.MaxLevels)
			for level := range api.MaxLevels + 1 {
				f := clone(all)
				copyLevel(&f, lacking, level)
				if got := Check(f); got != (level == api.MaxLevels) {
					t.Errorf("without %v at level %d the check is %v", x, level, got)
				}
				f = clone(lacking)
				copyLevel(&f, all, level)
				if got := Check(f); got != (level == 0) {
					t.Errorf("with %v at level %d alone the check is %v", x, level, got)
				}
			}
		}
	}
}

func TestP13_5EachPart(t *testing.T) {
	f := under(t)
	for _, x := range []struct {
		name   string
		parts  []int
		change func(f *api.Forest)
	}{
		{"nothing", nil, func(f *api.Forest) {}},
		{"another height", []int{partValid}, func(f *api.Forest) { f.Height = 1 }},
		{"an unknown node of a climber", []int{partValid}, func(f *api.Forest) { f.Climbers[1].Node = 3 }},
		{"a phase that locked does not have", []int{partValid}, func(f *api.Forest) { f.Layers[0].List.Procs[1].Phase = api.PhaseMark }},
		{"a Right at level 0", []int{partLists}, func(f *api.Forest) { cellOf(f, 0, 9).Right = 0 }},
		{"a Left of the first list of level 1", []int{partLists}, func(f *api.Forest) { cellOf(f, 1, 4).Left = 2 }},
		{"a Left of the last list", []int{partLists}, func(f *api.Forest) { cellOf(f, 2, 9).Left = 2 }},
		{"a head that is Gone", []int{partLists}, func(f *api.Forest) { f.Layers[4].List.Cells[0].Gone = true }},
		{"a lock of a process that does not hold it", []int{partLists}, func(f *api.Forest) { f.Layers[3].List.Cells[1].Lock = 2 }},
		{"a process that holds a cell without a lock", []int{partLists}, func(f *api.Forest) { f.Layers[0].List.Procs[1].Phase = api.PhaseLink0 }},
		{"a node at level 1 that is not at level 0", []int{partLevels}, func(f *api.Forest) {
			f.Layers[0].List, _ = locked.New([]string{"", "c", "m", "x"}, []bool{true, false, false, false}, 3)
		}},
		{"a node at level 2 that is not at level 1", []int{partLevels}, func(f *api.Forest) {
			f.Layers[2].List, _ = locked.New([]string{"c", "m", "x"}, []bool{false, false, false}, 3)
		}},
		{"another node at level 2", []int{partLevels}, func(f *api.Forest) { f.Layers[5].List, _ = locked.New([]string{"m", "x"}, []bool{true, true}, 3) }},
		{"no node at level 2", nil, func(f *api.Forest) {
			f.Layers[3].List, _ = locked.New([]string{""}, []bool{false}, 3)
			f.Layers[5].List, _ = locked.New([]string{"m", "x"}, []bool{false, false}, 3)
		}},
		{"a wrong list and a node that is not at level 0", []int{partLists, partLevels}, func(f *api.Forest) { cellOf(f, 0, 9).Gone = true }},
		// What climbers do, the check does not ask.
		{"a climber of another node", nil, func(f *api.Forest) { f.Climbers[1].Node = 7 }},
		{"a climber at another level", nil, func(f *api.Forest) { f.Climbers[1].Level = 2 }},
		{"a climber that leaves", nil, func(f *api.Forest) { f.Climbers[1].Kind = api.OpRemove }},
		{"an idle climber of a process that is under way", nil, func(f *api.Forest) { f.Climbers[1] = api.Climber{} }},
		{"another climber of the node", nil, func(f *api.Forest) { f.Climbers[0] = f.Climbers[1] }},
		{"nodes in another order", nil, func(f *api.Forest) { slices.Reverse(f.Nodes) }},
	} {
		changed := spoil(f, x.change)
		if parts := brokenParts(changed); !slices.Equal(parts, x.parts) {
			t.Errorf("%s: in %v the parts %v are broken, not %v", x.name, changed, parts, x.parts)
		}
		if got := Check(changed); got != (len(x.parts) == 0) {
			t.Errorf("%s: the check of %v is %v", x.name, changed, got)
		}
	}
}

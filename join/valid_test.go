package join

import (
	"math"
	"slices"
	"strings"
	"testing"

	"skipgraph/api"
)

// under returns a forest of the nodes of four, with the height 2 and 3 climbers, of which the second one lets the node 2 join.
func under(t *testing.T) api.Forest {
	t.Helper()
	return begun(t, made(t, four(), []int{4, 9}, 3, 2), 1, api.OpInsert, 2)
}

// spoil returns a forest that is changed.
func spoil(f api.Forest, change func(f *api.Forest)) api.Forest {
	out := clone(f)
	change(&out)
	return out
}

// wantNotValid examines that all functions report a forest as not valid.
func wantNotValid(t *testing.T, name string, f api.Forest) {
	t.Helper()
	if validInWords(f) {
		t.Fatalf("%s: %v is valid", name, f)
	}
	for _, p := range []int{-1, 0, 1, 2, 9} {
		if got, ok := Step(f, p); !isZero(got) || ok {
			t.Errorf("%s: a step of %d in %v is %v, %v", name, p, f, got, ok)
		}
		for _, x := range [][2]int{{api.OpInsert, 7}, {api.OpRemove, 9}, {api.OpRemove, 2}, {9, 9}, {api.OpInsert, -1}, {api.OpNone, 0}} {
			if got, err := Start(f, p, x[0], x[1]); !isZero(got) || err != api.ErrInvalid {
				t.Errorf("%s: Start of %d with %v in %v is %v, %d", name, p, x, f, got, err)
			}
		}
	}
	for level := -1; level < 4; level++ {
		if got := Present(f, level); len(got) > 0 {
			t.Errorf("%s: at level %d of %v the nodes %v are present", name, level, f, got)
		}
	}
	if got := Links(f); len(got) > 0 {
		t.Errorf("%s: the links of %v are %v", name, f, got)
	}
	if Check(f) {
		t.Errorf("%s: the check of %v is true", name, f)
	}
	if got := Bound(f); got != 0 {
		t.Errorf("%s: the bound of %v is %d", name, f, got)
	}
}

func wantValid(t *testing.T, name string, f api.Forest) {
	t.Helper()
	if !validInWords(f) {
		t.Fatalf("%s: %v is not valid", name, f)
	}
	wantAll(t, f)
	if _, err := Start(f, -1, 9, -1); err != api.ErrRange {
		t.Errorf("%s: Start in %v has the error %d", name, f, err)
	}
}

func TestP13_1ForestsWithoutNodesOfARoster(t *testing.T) {
	for _, nodes := range noRosters() {
		wantNotValid(t, "no layers", api.Forest{Nodes: nodes, Climbers: make([]api.Climber, 1)})
		wantNotValid(t, "layers of other nodes", spoil(under(t), func(f *api.Forest) { f.Nodes = nodes }))
		if len(nodes) < 5 {
			wantNotValid(t, "their own layers", newInWords(nodes, nil, 1, 0))
		}
	}
	for i := range 4 {
		for name, change := range map[string]func(x *api.Node){
			"the number 0": func(x *api.Node) { x.ID = 0 }, "a negative number": func(x *api.Node) { x.ID = -x.ID },
			"a great number": func(x *api.Node) { x.ID += 1 << 32 }, "the number of another one": func(x *api.Node) { x.ID = four()[(i+1)%4].ID },
			"another number": func(x *api.Node) { x.ID = 5 }, "a long key": func(x *api.Node) { x.Key = tooLong },
			"the key of another one": func(x *api.Node) { x.Key = four()[(i+1)%4].Key }, "another key": func(x *api.Node) { x.Key += "a" },
			"a great word": func(x *api.Node) { x.Word |= 1 << api.MaxLevels }, "another list of level 1": func(x *api.Node) { x.Word ^= 1 },
			"another list of level 2": func(x *api.Node) { x.Word ^= 2 },
		} {
			wantNotValid(t, name, spoil(under(t), func(f *api.Forest) { change(&f.Nodes[i]) }))
		}
	}
	wantNotValid(t, "no nodes", spoil(under(t), func(f *api.Forest) { f.Nodes = nil }))
	wantNotValid(t, "one more", spoil(under(t), func(f *api.Forest) { f.Nodes = append(f.Nodes, node(1, "d", 0)) }))
	wantNotValid(t, "one less", spoil(under(t), func(f *api.Forest) { f.Nodes = f.Nodes[1:] }))
}

// TestP13_1NodesOfValidForests examines changes of Nodes from which the same layers follow.
func TestP13_1NodesOfValidForests(t *testing.T) {
	var d dice
	for range 5 {
		wantValid(t, "nodes in another order", spoil(under(t), func(f *api.Forest) { f.Nodes = shuffled(&d, f.Nodes) }))
	}
	// The node 9 is not the first one of a list, and bits from 2 on do not matter at the levels up to 2.
	wantValid(t, "another word", spoil(under(t), func(f *api.Forest) { f.Nodes[2].Word = 4 }))
	wantNotValid(t, "another word of a first node", spoil(under(t), func(f *api.Forest) { f.Nodes[0].Word = 4 }))
	for range 200 {
		f := d.forest()
		wantAll(t, spoil(f, func(f *api.Forest) { f.Nodes = shuffled(&d, f.Nodes) }))
	}
}

func TestP13_1HeightsOfForests(t *testing.T) {
	for _, height := range append([]int{-2, -1, 0, 1, 3, api.MaxLevels, api.MaxLevels + 1, api.MaxLevels + 2}, far...) {
		wantNotValid(t, "another height", spoil(under(t), func(f *api.Forest) { f.Height = height }))
	}
	empty := func(height, procs int) api.Forest {
		return api.Forest{Height: height, Climbers: make([]api.Climber, procs)}
	}
	for height := range api.MaxLevels + 1 {
		wantValid(t, "no nodes", empty(height, 1+height%api.MaxProcs))
		f := made(t, four(), []int{2, 9}, 2, height)
		wantValid(t, "each height", f)
		wantNotValid(t, "one less", spoil(f, func(f *api.Forest) { f.Height-- }))
		wantNotValid(t, "one more", spoil(f, func(f *api.Forest) { f.Height++ }))
	}
	for _, height := range append([]int{-1, api.MaxLevels + 1}, far...) {
		wantNotValid(t, "no nodes and a far height", empty(height, 1))
	}
	high := made(t, four(), nil, 1, api.MaxLevels)
	for _, x := range high.Layers[len(high.Layers)-3:] {
		x.Level++
		high.Layers = append(high.Layers, x)
	}
	high.Height++
	wantNotValid(t, "a level above the greatest one", high)
}

func TestP13_1NumbersOfClimbers(t *testing.T) {
	// As many processes as climbers, but no number that New takes.
	for _, n := range []int{0, api.MaxProcs + 1, 100} {
		f := newInWords(four(), nil, 1, 2)
		f.Climbers = make([]api.Climber, n)
		for i := range f.Layers {
			f.Layers[i].List.Procs = make([]api.Proc, n)
		}
		wantNotValid(t, "climbers", f)
		wantNotValid(t, "climbers without nodes", api.Forest{Climbers: make([]api.Climber, n)})
	}
	for n := 1; n <= api.MaxProcs; n++ {
		f := made(t, four(), nil, n, 1)
		wantValid(t, "climbers", f)
		wantNotValid(t, "one more", spoil(f, func(f *api.Forest) { f.Climbers = append(f.Climbers, api.Climber{}) }))
		wantNotValid(t, "one less", spoil(f, func(f *api.Forest) { f.Climbers = f.Climbers[1:] }))
		wantValid(t, "climbers without nodes", api.Forest{Climbers: make([]api.Climber, n)})
	}
	for i := range 6 {
		wantNotValid(t, "one process more", spoil(under(t), func(f *api.Forest) { f.Layers[i].List.Procs = make([]api.Proc, 4) }))
		wantNotValid(t, "one process less", spoil(under(t), func(f *api.Forest) { f.Layers[i].List.Procs = make([]api.Proc, 2) }))
		wantNotValid(t, "no process", spoil(under(t), func(f *api.Forest) { f.Layers[i].List.Procs = nil }))
	}
	wantNotValid(t, "the zero forest", api.Forest{})
}

func TestP13_1LayersOfForests(t *testing.T) {
	f := under(t)
	for i := range f.Layers {
		for name, change := range map[string]func(f *api.Forest){
			"a layer is left out":     func(f *api.Forest) { f.Layers = slices.Delete(f.Layers, i, i+1) },
			"a layer is there twice":  func(f *api.Forest) { f.Layers = slices.Insert(f.Layers, i, cloneLayer(f.Layers[i])) },
			"the zero layer":          func(f *api.Forest) { f.Layers[i] = api.Layer{} },
			"the level below":         func(f *api.Forest) { f.Layers[i].Level-- },
			"the level above":         func(f *api.Forest) { f.Layers[i].Level++ },
			"a far level":             func(f *api.Forest) { f.Layers[i].Level += 1 << 32 },
			"another bit":             func(f *api.Forest) { f.Layers[i].Word ^= 1 << (api.MaxLevels - 1) },
			"a bit that no word has":  func(f *api.Forest) { f.Layers[i].Word ^= 1 << api.MaxLevels },
			"another word":            func(f *api.Forest) { f.Layers[i].Word ^= 1 },
			"a node less":             func(f *api.Forest) { f.Layers[i].Nodes = f.Layers[i].Nodes[1:] },
			"no nodes":                func(f *api.Forest) { f.Layers[i].Nodes = nil },
			"a node more":             func(f *api.Forest) { f.Layers[i].Nodes = append(f.Layers[i].Nodes, 7) },
			"a node of another list":  func(f *api.Forest) { f.Layers[i].Nodes[0] = 6 - f.Layers[i].Nodes[0]%5 },
			"a number without a node": func(f *api.Forest) { f.Layers[i].Nodes[0] = 0 },
			"a cell less":             func(f *api.Forest) { cells := &f.Layers[i].List.Cells; *cells = (*cells)[:len(*cells)-1] },
			"a cell more": func(f *api.Forest) {
				f.Layers[i].List.Cells = append(f.Layers[i].List.Cells, api.Cell{Key: "d", Gone: true})
			},
			"no cells":                func(f *api.Forest) { f.Layers[i].List.Cells = nil },
			"a key of the head":       func(f *api.Forest) { f.Layers[i].List.Cells[0].Key = "c" },
			"a key of the tail":       func(f *api.Forest) { f.Layers[i].List.Cells[1].Key = "c" },
			"another key":             func(f *api.Forest) { f.Layers[i].List.Cells[2].Key += "b" },
			"another last key":        func(f *api.Forest) { c := f.Layers[i].List.Cells; c[len(c)-1].Key += "b" },
			"a long key":              func(f *api.Forest) { f.Layers[i].List.Cells[2].Key = tooLong },
			"a list that isn't valid": func(f *api.Forest) { f.Layers[i].List.Cells[2].Left = -1 },
			"a phase without locks":   func(f *api.Forest) { f.Layers[i].List.Procs[2] = api.Proc{Kind: api.OpInsert, Phase: api.PhaseSwap} },
			"a lock of nobody":        func(f *api.Forest) { f.Layers[i].List.Cells[1].Lock = 4 },
		} {
			wantNotValid(t, name, spoil(f, change))
		}
	}
	wantNotValid(t, "no layers", spoil(f, func(f *api.Forest) { f.Layers = nil }))
	for i := range f.Layers {
		for k := range i {
			wantNotValid(t, "layers in another order", spoil(f, func(f *api.Forest) { f.Layers[i], f.Layers[k] = f.Layers[k], f.Layers[i] }))
		}
	}
	wantNotValid(t, "nodes in another order", spoil(f, func(f *api.Forest) { l := f.Layers[0].Nodes; l[1], l[2] = l[2], l[1] }))
	wantNotValid(t, "keys in another order", spoil(f, func(f *api.Forest) { l := f.Layers[0].List.Cells; l[3].Key, l[4].Key = l[4].Key, l[3].Key }))
	wantNotValid(t, "nodes and keys in another order", spoil(f, func(f *api.Forest) {
		nodes, cells := f.Layers[5].Nodes, f.Layers[5].List.Cells
		nodes[0], nodes[1], cells[2].Key, cells[3].Key = nodes[1], nodes[0], cells[3].Key, cells[2].Key
	}))
	wantNotValid(t, "the word of another node of the list", spoil(newInWords(with(0, 4), nil, 1, 2), func(f *api.Forest) { f.Layers[0].Word = 4 - f.Layers[0].Word }))
	// Whatever a list is linked to, and whatever its processes do, it may be valid.
	wantValid(t, "any links", spoil(f, func(f *api.Forest) {
		for _, x := range f.Layers {
			x.List.Cells[0], x.List.Cells[1] = api.Cell{Left: 2, Right: 0, Gone: true, Lock: 3}, api.Cell{Left: 1, Right: 2, Gone: true}
			x.List.Procs[2] = api.Proc{Kind: api.OpFind, Phase: api.PhaseUnlink1, Cell: 1, Pred: 1}
		}
	}))
}

func TestP13_1ClimbersOfForests(t *testing.T) {
	type c = api.Climber
	notValid := []c{
		{Node: 2}, {Level: 1}, {Node: 2, Level: 1}, {Level: -1}, {Node: -1}, {Kind: api.OpFind}, {Kind: api.OpFind, Node: 2}, {Kind: -1, Node: 2},
		{Kind: 4, Node: 2}, {Kind: api.OpInsert}, {Kind: api.OpRemove}, {Kind: api.OpInsert, Node: 1}, {Kind: api.OpRemove, Node: -2},
		{Kind: api.OpInsert, Node: 2, Level: -1}, {Kind: api.OpRemove, Node: 2, Level: 3}, {Kind: api.OpInsert, Node: 2, Level: 3},
	}
	for _, number := range far {
		notValid = append(notValid, c{Kind: number, Node: 2}, c{Kind: api.OpInsert, Node: number}, c{Kind: api.OpRemove, Node: 2, Level: number}, c{Node: number}, c{Level: number})
	}
	for p := range 3 {
		for _, x := range notValid {
			wantNotValid(t, "a climber", spoil(under(t), func(f *api.Forest) { f.Climbers[p] = x }))
		}
		for _, kind := range kinds {
			for _, id := range []int{7, 2, 9, 4} {
				for level := range 3 {
					// There may be two climbers for one node, and such as were never started.
					wantValid(t, "a climber", spoil(under(t), func(f *api.Forest) { f.Climbers[p] = c{Kind: kind, Node: id, Level: level} }))
				}
			}
		}
	}
	wantNotValid(t, "a climber without nodes", api.Forest{Climbers: []c{{Kind: api.OpInsert, Node: 1}}})
	wantNotValid(t, "an idle climber without nodes", api.Forest{Climbers: []c{{}, {Node: 1}}})
}

// TestP13_1AnyChanges compares all functions with the chapter's words for forests in which any number is another one.
func TestP13_1AnyChanges(t *testing.T) {
	var d dice
	valid := 0
	for range 1500 {
		f := clone(d.filled(1+d.below(4), 1+d.below(3), d.below(4)))
		if d.chance() {
			f = newInWords(d.roster(3), nil, 2, 1)
		}
		values := []int{-1, 0, 1, 2, 3, 4, 5, 9, 17, 18, math.MaxInt, math.MinInt, 1 << 32}
		value := values[d.below(len(values))]
		x := &f.Layers[d.below(len(f.Layers))]
		cell, proc := &x.List.Cells[d.below(len(x.List.Cells))], &x.List.Procs[d.below(len(x.List.Procs))]
		climber, y := &f.Climbers[d.below(len(f.Climbers))], &f.Nodes[d.below(len(f.Nodes))]
		fields := []*int{
			&f.Height, &x.Level, &x.Nodes[d.below(len(x.Nodes))], &cell.Left, &cell.Right, &cell.Lock, &proc.Kind, &proc.Cell, &proc.Phase,
			&proc.Pred, &proc.Succ, &proc.Next, &climber.Kind, &climber.Node, &climber.Level, &y.ID,
		}
		switch at := d.below(len(fields) + 4); at {
		case len(fields):
			x.Word = uint32(value)
		case len(fields) + 1:
			y.Word = uint32(value)
		case len(fields) + 2:
			y.Key = strings.Repeat("k", value&127)
		case len(fields) + 3:
			cell.Key = strings.Repeat("k", value&127)
		default:
			*fields[at] = value
		}
		wantAll(t, f)
		if validInWords(f) {
			valid++
		} else {
			wantNotValid(t, "any change", f)
		}
	}
	if valid < 150 || valid > 1350 {
		t.Errorf("%d forests are valid", valid)
	}
}

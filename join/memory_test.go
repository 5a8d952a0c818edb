package join

import (
	"slices"
	"strconv"
	"testing"

	"skipgraph/api"
)

// spare are so many elements behind the end of each slice of an argument, which must stay as they are.
const spare = 3

// padded returns l with elements in its spare capacity.
func padded[T any](l []T, element T) []T {
	out := slices.Concat(l, slices.Repeat([]T{element}, spare))
	return out[:len(l)]
}

// guarded is a forest with spare capacity everywhere, and what is in it.
type guarded struct{ forest, before api.Forest }

func guard(f api.Forest) guarded {
	g := api.Forest{Height: f.Height}
	g.Nodes = padded(f.Nodes, node(1, "d", 0))
	g.Climbers = padded(f.Climbers, api.Climber{})
	for _, x := range f.Layers {
		x.Nodes = padded(x.Nodes, 7)
		x.List.Cells = padded(x.List.Cells, api.Cell{Key: "spare", Gone: true})
		x.List.Procs = padded(x.List.Procs, api.Proc{})
		g.Layers = append(g.Layers, x)
	}
	g.Layers = padded(g.Layers, api.Layer{})
	return guarded{g, clone(whole(g))}
}

// whole returns a forest with what is in the spare capacity of its slices.
func whole(f api.Forest) api.Forest {
	f.Nodes, f.Climbers = f.Nodes[:cap(f.Nodes)], f.Climbers[:cap(f.Climbers)]
	layers := slices.Clone(f.Layers[:cap(f.Layers)])
	for i := range layers {
		x := &layers[i]
		x.Nodes, x.List.Cells, x.List.Procs = x.Nodes[:cap(x.Nodes)], x.List.Cells[:cap(x.List.Cells)], x.List.Procs[:cap(x.List.Procs)]
	}
	f.Layers = layers
	return f
}

func (g guarded) want(t *testing.T) {
	t.Helper()
	if now := whole(g.forest); !same(now, g.before) {
		t.Fatalf("an argument is changed: %v, not %v", now, g.before)
	}
}

// scribble overwrites a forest with what is in its spare capacity, each place with something else, and reports whether each place
// has kept that, so that no two of them are the same.
func scribble(f api.Forest) bool {
	layers := f.Layers[:cap(f.Layers)]
	f = whole(f)
	for round := range 2 {
		n, kept := 0, true
		for i := range f.Nodes {
			n++
			kept = kept && f.Nodes[i].ID == -n
			f.Nodes[i] = node(-n, "?", 7)
		}
		for i := range f.Climbers {
			n++
			kept = kept && f.Climbers[i].Node == -n
			f.Climbers[i] = api.Climber{Kind: -7, Node: -n, Level: -7}
		}
		for _, x := range f.Layers {
			for i := range x.Nodes {
				n++
				kept = kept && x.Nodes[i] == -n
				x.Nodes[i] = -n
			}
			for i := range x.List.Cells {
				n++
				kept = kept && x.List.Cells[i].Left == -n
				x.List.Cells[i] = api.Cell{Key: strconv.Itoa(n), Left: -n, Lock: -7}
			}
			for i := range x.List.Procs {
				n++
				kept = kept && x.List.Procs[i].Cell == -n
				x.List.Procs[i] = api.Proc{Kind: -7, Cell: -n}
			}
		}
		if round == 1 {
			clear(layers)
			return kept
		}
	}
	return false
}

// anyForests returns forests that are reached, others that are valid, and some that are not.
func anyForests(t *testing.T) []api.Forest {
	t.Helper()
	out := append(reached(t), api.Forest{})
	var d dice
	for range 100 {
		f := d.forest()
		out = append(out, f, spoil(f, func(f *api.Forest) { f.Climbers[0].Level = -1 }), spoil(f, func(f *api.Forest) { f.Height++ }))
	}
	return append(out, d.filled(len(samples), api.MaxProcs, 3))
}

func TestArgumentsStayAsTheyAre(t *testing.T) {
	for _, f := range anyForests(t) {
		g := guard(f)
		for p := -1; p <= len(f.Climbers); p++ {
			Step(g.forest, p)
			for _, kind := range []int{0, api.OpInsert, api.OpRemove, api.OpFind} {
				for _, x := range f.Nodes {
					Start(g.forest, p, kind, x.ID)
				}
				Start(g.forest, p, kind, 0)
			}
		}
		for level := -1; level < 4; level++ {
			Present(g.forest, level)
		}
		Links(g.forest)
		Check(g.forest)
		Bound(g.forest)
		g.want(t)
	}
}

func TestP13_1ArgumentsStayAsTheyAre(t *testing.T) {
	for _, x := range [][]api.Node{nil, four(), with(0, 1, 0), many(20), {node(0, "a", 0)}} {
		for _, ids := range [][]int{nil, numbers(x), {7, 7}, {5}, {9, 4}} {
			nodes, in := padded(x, node(1, "d", 0)), padded(ids, 2)
			nodesBefore, inBefore := slices.Clone(nodes[:cap(nodes)]), slices.Clone(in[:cap(in)])
			for _, height := range []int{-1, 0, 3} {
				f, _ := New(nodes, in, 2, height)
				other, _ := New(nodes, in, 2, height)
				before := clone(other)
				if !scribble(f) {
					t.Fatalf("two parts of a forest of %v share memory", x)
				}
				if !slices.Equal(nodes[:cap(nodes)], nodesBefore) || !slices.Equal(in[:cap(in)], inBefore) || !same(other, before) {
					t.Fatalf("an argument is changed: %v, %v", nodes, in)
				}
			}
		}
	}
}

// wantNewMemory examines that the results of call share no memory with its argument, with one another and among their parts.
func wantNewMemory(t *testing.T, f api.Forest, call func(f api.Forest) api.Forest) {
	t.Helper()
	g := guard(f)
	first, second := call(g.forest), call(g.forest)
	before := clone(second)
	if !scribble(first) {
		t.Fatalf("two parts of a result for %v share memory", f)
	}
	g.want(t)
	if !same(second, before) || !same(call(g.forest), before) {
		t.Fatalf("the results of two calls with %v share memory", f)
	}
}

func TestP13_2ForestsShareNoMemory(t *testing.T) {
	for _, f := range anyForests(t) {
		for _, x := range f.Nodes {
			for _, kind := range kinds {
				wantNewMemory(t, f, func(f api.Forest) api.Forest {
					out, _ := Start(f, 0, kind, x.ID)
					return out
				})
			}
		}
	}
}

// TestP13_3ForestsShareNoMemory also examines steps that are not possible, which return the forest unchanged.
func TestP13_3ForestsShareNoMemory(t *testing.T) {
	for _, f := range anyForests(t) {
		for p := -1; p <= len(f.Climbers); p++ {
			wantNewMemory(t, f, func(f api.Forest) api.Forest {
				out, _ := Step(f, p)
				return out
			})
		}
	}
}

func TestP13_4ResultsShareNoMemory(t *testing.T) {
	for _, f := range anyForests(t) {
		g := guard(f)
		for level := range 3 {
			first, second := Present(g.forest, level), Present(g.forest, level)
			before := slices.Clone(second)
			for i := range first[:cap(first)] {
				first[:cap(first)][i] = -7
			}
			if !slices.Equal(second, before) || !slices.Equal(Present(g.forest, level), before) {
				t.Fatalf("the results of Present of %v share memory", f)
			}
		}
		links, other := Links(g.forest), Links(g.forest)
		n := 0
		for _, x := range links {
			for i := range x.Levels[:cap(x.Levels)] {
				n++
				x.Levels[:cap(x.Levels)][i] = api.Link{Left: -n}
			}
		}
		n = 0
		for _, x := range links {
			for _, y := range x.Levels[:cap(x.Levels)] {
				n++
				if y.Left != -n {
					t.Fatalf("two parts of the links of %v share memory", f)
				}
			}
		}
		g.want(t)
		if want := Links(f); !sameLinks(other, want) {
			t.Fatalf("the results of Links of %v share memory", f)
		}
	}
}

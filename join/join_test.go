package join

import (
	"math"
	"slices"
	"strconv"
	"strings"
	"testing"

	"skipgraph/api"
	"skipgraph/ideal"
	"skipgraph/locked"
	"skipgraph/word"
)

var (
	tooLong  = strings.Repeat("k", api.MaxKey+1)
	greatest = strings.Repeat("\xff", api.MaxKey)
)

// samples are valid keys in ascending order.
var samples = []string{"", "\x00", "A", "a", "a\x00", "aa", "b", "bb", "m", "z", "é", "\xff", greatest}

// far are numbers that are neither indices nor counts nor levels; the lowest 32 bits of some of them are.
var far = []int{1 << 32, 1<<32 + 1, 1<<32 + 2, -1 << 32, math.MinInt32, math.MaxInt32, math.MinInt, math.MaxInt}

// kinds are those of a climber that is not idle.
var kinds = []int{api.OpInsert, api.OpRemove}

// dice gives numbers that look as if they were thrown, the same ones in each run.
type dice uint64

// below returns a number from 0 to n - 1.
func (d *dice) below(n int) int {
	*d = *d*6364136223846793005 + 1442695040888963407
	return int(*d>>33) % n
}

func (d *dice) chance() bool { return d.below(2) == 0 }

// shuffled returns the elements of l in another order.
func shuffled[T any](d *dice, l []T) []T {
	out := slices.Clone(l)
	for i := range out {
		k := d.below(i + 1)
		out[i], out[k] = out[k], out[i]
	}
	return out
}

// some returns those elements of l whose bits in a number are set.
func some[T any](l []T, number int) []T {
	var out []T
	for i, x := range l {
		if number>>i&1 == 1 {
			out = append(out, x)
		}
	}
	return out
}

func node(id int, key string, word uint32) api.Node { return api.Node{ID: id, Key: key, Word: word} }

// four are nodes whose order is not that of their Keys, which is 4, 2, 7, 9. At level 1 the node 4 is alone, at level 2 also the
// node 2, and the words of 7 and 9 agree at all levels.
func four() []api.Node {
	return []api.Node{node(7, "m", 0), node(2, "c", 2), node(9, "x", 0), node(4, "", 1)}
}

// with returns some nodes with words that are given.
func with(words ...uint32) []api.Node {
	var out []api.Node
	for i, w := range words {
		out = append(out, node(i+1, samples[(i*5+3)%len(samples)], w))
	}
	return out
}

// many returns n nodes, not in the order of their Keys, with words that are drawn.
func many(n int) []api.Node {
	var out []api.Node
	for i := range n {
		out = append(out, node(1000+i, "k"+strconv.Itoa(100+i*37%n), word.Draw(5, i)))
	}
	return out
}

// alike returns n nodes with the same word.
func alike(n int) []api.Node {
	out := many(n)
	for i := range out {
		out[i].Word = 0xabcd
	}
	return out
}

// roster returns n nodes whose words often agree in some bits.
func (d *dice) roster(n int) []api.Node {
	masks := []uint32{0, 1, 3, 7, 1<<api.MaxLevels - 1, 1 << (api.MaxLevels - 1), 2}
	mask := masks[d.below(len(masks))]
	var out []api.Node
	for i, key := range shuffled(d, samples)[:n] {
		out = append(out, node(1+i*(1+d.below(9)*n), key, uint32(d.below(1<<api.MaxLevels))&mask))
	}
	return out
}

func numbers(l []api.Node) []int {
	var out []int
	for _, x := range l {
		out = append(out, x.ID)
	}
	return out
}

// without returns the nodes of l whose numbers are not in ids.
func without(l []api.Node, ids ...int) []api.Node {
	return slices.DeleteFunc(slices.Clone(l), func(x api.Node) bool { return slices.Contains(ids, x.ID) })
}

func cloneLayer(x api.Layer) api.Layer {
	x.Nodes = slices.Clone(x.Nodes)
	x.List = api.List{Cells: slices.Clone(x.List.Cells), Procs: slices.Clone(x.List.Procs)}
	return x
}

func clone(f api.Forest) api.Forest {
	f.Nodes, f.Layers, f.Climbers = slices.Clone(f.Nodes), slices.Clone(f.Layers), slices.Clone(f.Climbers)
	for i, x := range f.Layers {
		f.Layers[i] = cloneLayer(x)
	}
	return f
}

func sameList(a, b api.List) bool {
	return slices.Equal(a.Cells, b.Cells) && slices.Equal(a.Procs, b.Procs)
}

func sameLayer(a, b api.Layer) bool {
	return a.Level == b.Level && a.Word == b.Word && slices.Equal(a.Nodes, b.Nodes) && sameList(a.List, b.List)
}

func same(a, b api.Forest) bool {
	return a.Height == b.Height && slices.Equal(a.Nodes, b.Nodes) && slices.EqualFunc(a.Layers, b.Layers, sameLayer) &&
		slices.Equal(a.Climbers, b.Climbers)
}

func isZero(f api.Forest) bool { return same(f, api.Forest{}) }

// made returns a forest of New.
func made(t *testing.T, nodes []api.Node, in []int, procs, height int) api.Forest {
	t.Helper()
	f, err := New(nodes, in, procs, height)
	if err != api.OK {
		t.Fatalf("New of %v, %v, %d, %d has the error %d", nodes, in, procs, height, err)
	}
	return f
}

// begun returns a forest in which a climber has begun.
func begun(t *testing.T, f api.Forest, p, kind, id int) api.Forest {
	t.Helper()
	out, err := Start(f, p, kind, id)
	if err != api.OK {
		t.Fatalf("Start of %d, %d, %d in %v has the error %d", p, kind, id, f, err)
	}
	return out
}

// after returns the forest to which n steps of a climber lead.
func after(t *testing.T, f api.Forest, p, n int) api.Forest {
	t.Helper()
	for range n {
		next, ok := Step(f, p)
		if !ok {
			t.Fatalf("%d makes no step in %v", p, f)
		}
		f = next
	}
	return f
}

// ended returns the forest in which a climber is idle again, if no other one makes a step.
func ended(t *testing.T, f api.Forest, p int) api.Forest {
	t.Helper()
	for f.Climbers[p].Kind != api.OpNone {
		f = after(t, f, p, 1)
	}
	return f
}

// until returns the forest to which steps of a climber lead until its process is in a phase at a level.
func until(t *testing.T, f api.Forest, p, level, phase int) api.Forest {
	t.Helper()
	for f.Climbers[p].Level != level || processOf(f, p).Phase != phase {
		f = after(t, f, p, 1)
	}
	return f
}

// processOf returns the process of a climber that is not idle, in the list that it works on.
func processOf(f api.Forest, p int) api.Proc {
	return layerOf(&f, f.Climbers[p].Level, f.Climbers[p].Node).List.Procs[p]
}

// layerOf returns the layer of a level to which a node belongs.
func layerOf(f *api.Forest, level, id int) *api.Layer {
	for i, x := range f.Layers {
		if x.Level == level && slices.Contains(x.Nodes, id) {
			return &f.Layers[i]
		}
	}
	return nil
}

// cellOf returns the cell of a node in its layer of a level.
func cellOf(f *api.Forest, level, id int) *api.Cell {
	x := layerOf(f, level, id)
	return &x.List.Cells[2+slices.Index(x.Nodes, id)]
}

func wantNew(t *testing.T, nodes []api.Node, in []int, procs, height int) {
	t.Helper()
	f, err := New(nodes, in, procs, height)
	if want := newInWords(nodes, in, procs, height); err != api.OK || !same(f, want) {
		t.Fatalf("New of %v, %v, %d, %d is %v, %d, not %v", nodes, in, procs, height, f, err, want)
	}
	present := without(nodes, numbers(without(nodes, in...))...)
	exact, _ := ideal.Build(present, height)
	if !Check(f) || Bound(f) != 0 || !ideal.Same(Links(f), exact) {
		t.Fatalf("New of %v, %v, %d, %d is %v, with which something is wrong", nodes, in, procs, height, f)
	}
}

func TestP13_1New(t *testing.T) {
	f := made(t, four(), []int{9, 4}, 2, 2)
	type row struct {
		level int
		word  uint32
		nodes []int
		keys  []string
		in    []bool
	}
	want := []row{
		{0, 1, []int{4, 2, 7, 9}, []string{"", "c", "m", "x"}, []bool{true, false, false, true}},
		{1, 1, []int{4}, []string{""}, []bool{true}},
		{1, 2, []int{2, 7, 9}, []string{"c", "m", "x"}, []bool{false, false, true}},
		{2, 1, []int{4}, []string{""}, []bool{true}},
		{2, 2, []int{2}, []string{"c"}, []bool{false}},
		{2, 0, []int{7, 9}, []string{"m", "x"}, []bool{false, true}},
	}
	if !slices.Equal(f.Nodes, four()) || f.Height != 2 || !slices.Equal(f.Climbers, make([]api.Climber, 2)) || len(f.Layers) != len(want) {
		t.Fatalf("the forest is %v", f)
	}
	for i, y := range want {
		list, _ := locked.New(y.keys, y.in, 2)
		if layer := (api.Layer{Level: y.level, Word: y.word, Nodes: y.nodes, List: list}); !sameLayer(f.Layers[i], layer) {
			t.Errorf("the layer %d is %v, not %v", i, f.Layers[i], layer)
		}
	}
}

func TestP13_1FewNodes(t *testing.T) {
	f := made(t, nil, nil, 3, api.MaxLevels)
	if len(f.Nodes) > 0 || len(f.Layers) > 0 || f.Height != api.MaxLevels || !slices.Equal(f.Climbers, make([]api.Climber, 3)) {
		t.Errorf("the forest without nodes is %v", f)
	}
	for _, in := range [][]int{nil, {5}} {
		f := made(t, []api.Node{node(5, "m", 6)}, in, 1, 1)
		list, _ := locked.New([]string{"m"}, []bool{len(in) > 0}, 1)
		want := api.Forest{
			Nodes: []api.Node{node(5, "m", 6)}, Height: 1, Climbers: make([]api.Climber, 1),
			Layers: []api.Layer{{Word: 6, Nodes: []int{5}, List: list}, {Level: 1, Word: 6, Nodes: []int{5}, List: list}},
		}
		if !same(f, want) {
			t.Errorf("the forest of one node is %v, not %v", f, want)
		}
	}
}

func TestP13_1AllShortRosters(t *testing.T) {
	var d dice
	for n := range 4 {
		for words := range 1 << (2 * n) {
			var nodes []api.Node
			for i := range n {
				nodes = append(nodes, node(i+1, samples[i*3], uint32(words>>(2*i)&3)))
			}
			for in := range 1 << n {
				for height := range 4 {
					wantNew(t, shuffled(&d, nodes), shuffled(&d, numbers(some(nodes, in))), 1+d.below(api.MaxProcs), height)
				}
			}
		}
	}
}

func TestP13_1AnyRosters(t *testing.T) {
	var d dice
	for range 3000 {
		nodes := d.roster(d.below(8))
		in := numbers(some(nodes, d.below(256)))
		wantNew(t, nodes, shuffled(&d, in), 1+d.below(api.MaxProcs), d.below(api.MaxLevels+1))
	}
}

func TestP13_1ManyNodes(t *testing.T) {
	for _, n := range []int{20, api.MaxNodes - 1, api.MaxNodes} {
		for _, nodes := range [][]api.Node{many(n), alike(n)} {
			for _, height := range []int{0, 1, 5, api.MaxLevels} {
				wantNew(t, nodes, nil, 1, height)
				wantNew(t, nodes, numbers(nodes), api.MaxProcs, height)
				wantNew(t, nodes, numbers(some(nodes, 0x5a5a5a5a)), 2, height)
			}
		}
	}
}

func wantNewError(t *testing.T, nodes []api.Node, in []int, procs, height int, want api.Errno) {
	t.Helper()
	if f, err := New(nodes, in, procs, height); err != want || !isZero(f) {
		t.Errorf("New of %v, %v, %d, %d is %v, %d, not the error %d", nodes, in, procs, height, f, err, want)
	}
}

// noRosters are lists of nodes that roster.Check does not accept, for each reason.
func noRosters() [][]api.Node {
	return [][]api.Node{
		many(api.MaxNodes + 1), many(1000), alike(api.MaxNodes + 1),
		{node(0, "a", 0)}, {node(-1, "a", 0)}, {node(1<<31, "a", 0)}, {node(1<<32+1, "a", 0)}, {node(math.MinInt, "a", 0)},
		{node(1, tooLong, 0)}, {node(2, "b", 0), node(1, tooLong, 0)}, {node(1, "a", 1<<api.MaxLevels)}, {node(1, "a", math.MaxUint32)},
		{node(1, "a", 0), node(1, "b", 0)}, {node(1, "a", 0), node(2, "a", 1)}, {node(1, "a", 0), node(2, "b", 1), node(1, "a", 0)},
	}
}

func TestP13_1NodesThatAreNoRoster(t *testing.T) {
	for _, nodes := range noRosters() {
		wantNewError(t, nodes, nil, 1, 0, api.ErrInvalid)
		wantNewError(t, nodes, numbers(nodes)[:1], api.MaxProcs, api.MaxLevels, api.ErrInvalid)
		// All other errors at once.
		wantNewError(t, nodes, []int{1, 1, -5}, 0, 0, api.ErrInvalid)
		wantNewError(t, nodes, []int{1, 1, -5}, 1, -1, api.ErrInvalid)
		wantNewError(t, nodes, []int{1, 1, -5}, math.MaxInt, math.MinInt, api.ErrInvalid)
	}
	wantNew(t, []api.Node{node(math.MaxInt32, greatest, 1<<api.MaxLevels-1), node(1, "", 0)}, []int{math.MaxInt32}, 1, api.MaxLevels)
}

func TestP13_1Ranges(t *testing.T) {
	for procs := 1; procs <= api.MaxProcs; procs++ {
		for height := range api.MaxLevels + 1 {
			wantNew(t, four(), []int{2}, procs, height)
			wantNew(t, nil, nil, procs, height)
		}
	}
	for _, number := range append([]int{-1, api.MaxLevels + 1, api.MaxLevels + 2, -api.MaxLevels}, far...) {
		for _, nodes := range [][]api.Node{nil, four()} {
			wantNewError(t, nodes, nil, number, 0, api.ErrRange)
			wantNewError(t, nodes, nil, 1, number, api.ErrRange)
			wantNewError(t, nodes, nil, number, number, api.ErrRange)
			wantNewError(t, nodes, []int{2, 2, 1}, number, api.MaxLevels, api.ErrRange)
			wantNewError(t, nodes, []int{2, 2, 1}, api.MaxProcs, number, api.ErrRange)
		}
	}
	for _, procs := range []int{0, api.MaxProcs + 1, api.MaxProcs + 2, -api.MaxProcs} {
		wantNewError(t, four(), nil, procs, 0, api.ErrRange)
		wantNewError(t, four(), []int{2, 2, 1}, procs, 0, api.ErrRange)
		wantNewError(t, nil, nil, procs, api.MaxLevels, api.ErrRange)
	}
}

func TestP13_1NumbersOfNodes(t *testing.T) {
	for _, id := range append([]int{-7, -1, 0, 1, 3, 5, 8, 10}, far...) {
		wantNewError(t, four(), []int{id}, 1, 0, api.ErrUnknown)
		wantNewError(t, four(), []int{7, 2, 9, 4, id}, 1, 0, api.ErrUnknown)
		wantNewError(t, nil, []int{id}, 1, 0, api.ErrUnknown)
		// A number that occurs twice is reported only if there is no unknown one, wherever they are.
		wantNewError(t, four(), []int{id, id}, 1, 0, api.ErrUnknown)
		wantNewError(t, four(), []int{7, 7, id}, 1, 0, api.ErrUnknown)
		wantNewError(t, four(), []int{id, 7, 7}, 1, 0, api.ErrUnknown)
	}
	for _, in := range [][]int{{7, 7}, {4, 4, 4}, {7, 2, 9, 4, 7}, {2, 9, 9}, {2, 9, 2, 4}} {
		wantNewError(t, four(), in, 1, 0, api.ErrDuplicate)
		wantNewError(t, four(), in, api.MaxProcs, api.MaxLevels, api.ErrDuplicate)
	}
	wantNewError(t, four(), slices.Repeat([]int{9}, 1000), 1, 0, api.ErrDuplicate)
	nodes := many(api.MaxNodes)
	for i := range nodes {
		wantNewError(t, nodes, append(numbers(nodes), nodes[i].ID), 1, 0, api.ErrDuplicate)
	}
}

func TestP13_6Bound(t *testing.T) {
	f := made(t, four(), []int{4, 9}, 4, 2)
	for p, want := range []int{0, 1 * 3 * (2*11 + 7), 2 * 3 * (3*11 + 7), 3 * 3 * (4*11 + 7), 4 * 3 * (5*11 + 7)} {
		if got := Bound(f); got != want {
			t.Errorf("with %d climbers the bound is %d, not %d", p, got, want)
		}
		if p < 4 {
			f = begun(t, f, 3-p, []int{api.OpInsert, api.OpRemove, api.OpInsert, api.OpRemove}[p], []int{2, 4, 7, 9}[p])
		}
	}
	f = ended(t, f, 2)
	if got, want := Bound(f), 3*3*(4*11+7); got != want {
		t.Errorf("with a climber that is idle again the bound is %d, not %d", got, want)
	}
}

func TestP13_6BoundOfAllSizes(t *testing.T) {
	for _, n := range []int{1, 2, 7, api.MaxNodes} {
		for _, height := range []int{0, 1, 4, api.MaxLevels} {
			f := made(t, alike(n), nil, api.MaxProcs, height)
			for m := range api.MaxProcs + 1 {
				for p := range f.Climbers {
					f.Climbers[p] = api.Climber{}
					// Those that are not idle are the last ones, and are at all levels.
					if p >= api.MaxProcs-m {
						f.Climbers[p] = api.Climber{Kind: kinds[p%2], Node: f.Nodes[p%n].ID, Level: p % (height + 1)}
					}
				}
				if got, want := Bound(f), m*(height+1)*((m+1)*(n+7)+7); got != want {
					t.Errorf("the bound of %d nodes, the height %d and %d climbers is %d, not %d", n, height, m, got, want)
				}
			}
		}
	}
	for _, height := range []int{0, api.MaxLevels} {
		if got := Bound(made(t, nil, nil, api.MaxProcs, height)); got != 0 {
			t.Errorf("without nodes the bound is %d", got)
		}
	}
}

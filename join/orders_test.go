package join

import (
	"encoding/binary"
	"slices"
	"testing"

	"skipgraph/api"
	"skipgraph/ideal"
	"skipgraph/word"
)

// order is what a climber is to do.
type order struct{ kind, id int }

// moment is a forest with what happened to it.
type moment struct {
	forest api.Forest
	// begun is how many orders each climber has begun, and there are the nodes that have joined and not left, or will have.
	begun []int
	there []int
}

// key returns a string that is another one for another moment of the same nodes.
func (y moment) key() string {
	var b []byte
	put := func(numbers ...int) {
		for _, n := range numbers {
			b = binary.AppendUvarint(b, uint64(n))
		}
	}
	flag := map[bool]int{true: 1}
	for _, x := range y.forest.Layers {
		for _, c := range x.List.Cells {
			put(c.Left, c.Right, c.Lock, flag[c.Gone])
		}
		for _, p := range x.List.Procs {
			put(p.Kind, p.Cell, p.Phase, p.Pred, p.Succ, p.Next, flag[p.Result])
		}
	}
	for _, c := range y.forest.Climbers {
		put(c.Kind, c.Node, c.Level)
	}
	put(y.begun...)
	put(y.there...)
	return string(b)
}

// explorer goes through all orders in which climbers begin and make their steps.
type explorer struct {
	t        *testing.T
	orders   [][]order
	steps    map[string]int
	finished []api.Forest
}

const unknown = -1

// explore examines all moments to which a forest with some orders for its climbers leads.
func explore(t *testing.T, f api.Forest, orders [][]order) *explorer {
	t.Helper()
	e := &explorer{t: t, orders: orders, steps: map[string]int{}}
	e.longest(moment{f, make([]int, len(orders)), sorted(Present(f, 0))})
	return e
}

func sorted(ids []int) []int { return slices.Sorted(slices.Values(ids)) }

// longest returns the greatest number of steps that can be made from a moment on if no climber is started any more.
func (e *explorer) longest(y moment) int {
	e.t.Helper()
	key := y.key()
	if steps, found := e.steps[key]; found {
		if steps == unknown {
			e.t.Fatalf("steps lead in a circle to %v", y)
		}
		return steps
	}
	e.steps[key] = unknown
	e.examine(y)
	longest, busy, stuck, rest := 0, false, true, true
	for p, c := range y.forest.Climbers {
		if c.Kind != api.OpNone {
			busy = true
			if next, ok := Step(y.forest, p); ok {
				stuck = false
				longest = max(longest, 1+e.longest(moment{next, y.begun, y.there}))
			} else if !same(next, y.forest) {
				e.t.Fatalf("%d makes no step in %v, but leads to %v", p, y.forest, next)
			}
		} else if next, ok := e.started(y, p); ok {
			rest = false
			e.longest(next)
		}
	}
	if busy && stuck {
		e.t.Fatalf("all climbers of %v wait", y.forest)
	}
	if longest > Bound(y.forest) {
		e.t.Fatalf("%d steps are possible from %v, whose bound is %d", longest, y.forest, Bound(y.forest))
	}
	if !busy {
		wantRest(e.t, y.forest, y.there)
		if rest {
			e.finished = append(e.finished, y.forest)
		}
	}
	e.steps[key] = longest
	return longest
}

// started returns the moment after a climber began with its next order, if it can.
func (e *explorer) started(y moment, p int) (moment, bool) {
	e.t.Helper()
	if y.begun[p] == len(e.orders[p]) {
		return y, false
	}
	o := e.orders[p][y.begun[p]]
	f, err := Start(y.forest, p, o.kind, o.id)
	there := slices.Contains(y.there, o.id)
	want := api.OK
	switch {
	case slices.ContainsFunc(y.forest.Climbers, func(c api.Climber) bool { return c.Node == o.id }):
		want = api.ErrBusy
	case o.kind == api.OpInsert && there:
		want = api.ErrDuplicate
	case o.kind == api.OpRemove && !there:
		want = api.ErrMissing
	}
	if err != want {
		e.t.Fatalf("Start of %d with %v in %v has the error %d, not %d", p, o, y.forest, err, want)
	}
	if err != api.OK {
		return y, false
	}
	y.forest, y.begun = f, slices.Clone(y.begun)
	y.begun[p]++
	y.there = slices.DeleteFunc(slices.Clone(y.there), func(id int) bool { return id == o.id })
	if o.kind == api.OpInsert {
		y.there = sorted(append(y.there, o.id))
	}
	return y, true
}

// examine examines what holds at all moments.
func (e *explorer) examine(y moment) {
	e.t.Helper()
	f := y.forest
	if !Check(f) {
		e.t.Fatalf("the check of %v is false", f)
	}
	for level := range f.Height + 1 {
		present := Present(f, level)
		for _, x := range f.Nodes {
			at := slices.IndexFunc(f.Climbers, func(c api.Climber) bool { return c.Node == x.ID })
			want := slices.Contains(y.there, x.ID)
			if at >= 0 {
				c := f.Climbers[at]
				if level == c.Level {
					continue
				}
				// Whoever joins is below where it works, whoever leaves is still there.
				want = level < c.Level
			}
			if slices.Contains(present, x.ID) != want {
				e.t.Fatalf("at level %d of %v the nodes %v are present", level, f, present)
			}
		}
	}
}

// wantRest examines a forest in which all climbers are idle.
func wantRest(t *testing.T, f api.Forest, there []int) {
	t.Helper()
	want, err := ideal.Build(without(f.Nodes, numbers(without(f.Nodes, there...))...), f.Height)
	if got := Links(f); err != api.OK || !sameLinks(got, want) {
		t.Fatalf("when %v are there the links of %v are %v, not %v", there, f, got, want)
	}
	for level := range f.Height + 1 {
		if got := Present(f, level); !slices.Equal(sorted(got), sorted(there)) {
			t.Fatalf("at level %d of %v the nodes %v are present, not %v", level, f, got, there)
		}
	}
}

// opposite returns what a node can do if it is there, or not.
func opposite(in []int, id int) order {
	if slices.Contains(in, id) {
		return order{api.OpRemove, id}
	}
	return order{api.OpInsert, id}
}

// TestP13_3TwoClimbers lets two of three nodes join or leave in all orders.
func TestP13_3TwoClimbers(t *testing.T) {
	for _, x := range []struct {
		nodes  []api.Node
		height int
	}{{with(0, 0, 0), 0}, {with(0, 0, 0), 1}, {with(2, 0, 0), 2}, {with(0, 1, 0), 2}, {with(3, 1, 2), 1}} {
		for number := range 1 << 3 {
			in := numbers(some(x.nodes, number))
			for _, pair := range [][2]int{{1, 2}, {1, 3}, {2, 3}} {
				f := made(t, x.nodes, in, 2, x.height)
				e := explore(t, f, [][]order{{opposite(in, pair[0])}, {opposite(in, pair[1])}})
				if len(e.finished) == 0 {
					t.Errorf("the climbers in %v do not come to an end", f)
				}
			}
		}
	}
}

// TestP13_3OneNode lets several climbers work for the same node, one after another.
func TestP13_3OneNode(t *testing.T) {
	join, leave := order{api.OpInsert, 2}, order{api.OpRemove, 2}
	for height := range 3 {
		for _, in := range [][]int{nil, {2}, {1, 3}, {1, 2, 3}} {
			e := explore(t, made(t, with(0, 0, 1), in, 2, height), [][]order{{join, leave}, {leave, join}})
			if len(e.finished) == 0 {
				t.Errorf("the climbers do not come to an end")
			}
		}
	}
}

// TestP13_3TwoClimbersAgain lets a climber work twice while another one works for a node beside.
func TestP13_3TwoClimbersAgain(t *testing.T) {
	join, leave := order{api.OpInsert, 2}, order{api.OpRemove, 2}
	for _, in := range [][]int{nil, {1}, {2}, {1, 2}} {
		for _, nodes := range [][]api.Node{with(0, 0), with(0, 1)} {
			twice := []order{join, leave}
			if slices.Contains(in, 2) {
				twice = []order{leave, join}
			}
			explore(t, made(t, nodes, in, 2, 1), [][]order{{opposite(in, 1)}, twice})
		}
	}
}

// TestP13_3ThreeClimbers lets three nodes join or leave in all orders, at one level and, if they all do the same, at two.
func TestP13_3ThreeClimbers(t *testing.T) {
	for number := range 1 << 3 {
		nodes := with(0, 0, 0)
		in := numbers(some(nodes, number))
		orders := [][]order{{opposite(in, 1)}, {opposite(in, 2)}, {opposite(in, 3)}}
		explore(t, made(t, nodes, in, 3, 0), orders)
		if number == 0 || number == 1<<3-1 {
			explore(t, made(t, with(0, 1, 0), in, 3, 1), orders)
		}
	}
}

// TestP13_3SamePlace examines two nodes that join at the same place at the same time, as the chapter's example says.
func TestP13_3SamePlace(t *testing.T) {
	for _, words := range [][2]uint32{{0, 0}, {0, 1}, {1, 3}, {3, 3}, {5, 1}} {
		nodes := []api.Node{node(1, "a", words[0]), node(2, "b", words[1]), node(3, "c", 1)}
		for _, in := range [][]int{nil, {3}} {
			e := explore(t, made(t, nodes, in, 2, 2), [][]order{{{api.OpInsert, 1}}, {{api.OpInsert, 2}}})
			if len(e.finished) == 0 {
				t.Fatal("the climbers do not come to an end")
			}
			for _, f := range e.finished {
				links := Links(f)
				for level := range 3 {
					together := word.Same(words[0], words[1], level)
					if (links[0].Levels[level].Right == 2) != together || (links[1].Levels[level].Left == 1) != together {
						t.Errorf("the words of the nodes are %v, and their links %v", words, links)
					}
				}
			}
		}
	}
}

func anyBusy(f api.Forest) bool {
	return slices.ContainsFunc(f.Climbers, func(c api.Climber) bool { return c.Kind != api.OpNone })
}

func canStep(f api.Forest) bool {
	for p := range f.Climbers {
		if _, ok := Step(f, p); ok {
			return true
		}
	}
	return false
}

// work lets climbers step in any order until all are idle, and examines the forest meanwhile.
func (d *dice) work(t *testing.T, f api.Forest) api.Forest {
	t.Helper()
	bound, steps, last := Bound(f), 0, 0
	for anyBusy(f) {
		if d.below(4) > 0 {
			last = d.below(len(f.Climbers))
		}
		next, ok := Step(f, last)
		if ok {
			steps++
		} else if !same(next, f) || !canStep(f) {
			t.Fatalf("a step of %d in %v is %v", last, f, next)
		}
		if ok && !Check(next) {
			t.Fatalf("the check of %v is false", next)
		}
		f = next
	}
	if steps > bound {
		t.Errorf("%d steps were made, more than %d", steps, bound)
	}
	return f
}

// TestP13_3ManyClimbers lets as many climbers as there can be change forests, in many orders.
func TestP13_3ManyClimbers(t *testing.T) {
	for seed := range 16 {
		d := dice(seed)
		n := []int{1, 3, 8, 13}[seed%4]
		nodes := d.roster(n)
		in := numbers(some(nodes, d.below(1<<13)))
		f := made(t, nodes, in, api.MaxProcs, []int{0, 2, 4}[seed%3])
		for range 3 {
			for p, x := range shuffled(&d, nodes) {
				o := opposite(in, x.ID)
				if p < api.MaxProcs {
					f = begun(t, f, p, o.kind, o.id)
					in = slices.DeleteFunc(in, func(id int) bool { return id == o.id })
					if o.kind == api.OpInsert {
						in = append(in, o.id)
					}
				}
			}
			f = d.work(t, f)
			wantRest(t, f, in)
		}
	}
}

// TestP13_3ClimbersThatBeginAtAnyTime starts climbers while others are at any level.
func TestP13_3ClimbersThatBeginAtAnyTime(t *testing.T) {
	for seed := range 12 {
		d := dice(seed)
		nodes := d.roster(6)
		f := made(t, nodes, nil, 4, d.below(4))
		there := map[int]bool{}
		for range 600 {
			p, x := d.below(4), nodes[d.below(len(nodes))]
			o := order{kinds[d.below(2)], x.ID}
			wantStart(t, f, p, o.kind, o.id)
			if next, err := Start(f, p, o.kind, o.id); err == api.OK {
				f = next
				there[o.id] = o.kind == api.OpInsert
			}
			for range d.below(30) {
				f, _ = Step(f, d.below(4))
			}
			if !Check(f) {
				t.Fatalf("the check of %v is false", f)
			}
		}
		var in []int
		for id, yes := range there {
			if yes {
				in = append(in, id)
			}
		}
		wantRest(t, d.work(t, f), in)
	}
}

// TestP13_3LargeForests lets as many climbers as there can be change forests of as many nodes.
func TestP13_3LargeForests(t *testing.T) {
	for i, nodes := range [][]api.Node{many(api.MaxNodes), alike(api.MaxNodes)} {
		d := dice(i)
		in := numbers(nodes[api.MaxProcs/2:])
		f := made(t, nodes, in, api.MaxProcs, []int{4, 1}[i])
		// The first half of the nodes for which there are climbers joins, the other one leaves.
		for p := range api.MaxProcs {
			o := opposite(in, nodes[p].ID)
			f = begun(t, f, p, o.kind, o.id)
		}
		wantRest(t, d.work(t, f), append(numbers(nodes[:api.MaxProcs/2]), numbers(nodes[api.MaxProcs:])...))
	}
}

// TestP13_3HighForests lets one node join and leave at all levels that there can be.
func TestP13_3HighForests(t *testing.T) {
	for _, nodes := range [][]api.Node{many(20), alike(5), four()} {
		var d dice
		f := made(t, nodes, numbers(nodes[1:]), 2, api.MaxLevels)
		f = d.work(t, begun(t, f, 1, api.OpInsert, nodes[0].ID))
		wantRest(t, f, numbers(nodes))
		f = d.work(t, begun(t, f, 0, api.OpRemove, nodes[0].ID))
		wantRest(t, f, numbers(nodes[1:]))
	}
}

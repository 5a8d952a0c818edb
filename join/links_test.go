package join

import (
	"slices"
	"testing"

	"skipgraph/api"
	"skipgraph/ideal"
)

func TestP13_4Present(t *testing.T) {
	f := made(t, four(), []int{9, 4, 7}, 1, 3)
	for level := range 4 {
		if got, want := Present(f, level), []int{4, 7, 9}; !slices.Equal(got, want) {
			t.Errorf("at level %d the nodes %v are present, not %v", level, got, want)
		}
	}
	for _, level := range append([]int{-2, -1, 4, 5, api.MaxLevels, api.MaxLevels + 1}, far...) {
		if got := Present(f, level); len(got) > 0 {
			t.Errorf("at level %d the nodes %v are present", level, got)
		}
	}
	// At each level, others may be members.
	cellOf(&f, 0, 9).Gone = true
	cellOf(&f, 1, 2).Gone = false
	cellOf(&f, 2, 7).Gone, cellOf(&f, 2, 4).Gone, cellOf(&f, 2, 9).Gone = true, true, true
	for level, want := range [][]int{{4, 7}, {4, 2, 7, 9}, nil, {4, 7, 9}} {
		if got := Present(f, level); !slices.Equal(got, want) {
			t.Errorf("at level %d the nodes %v are present, not %v", level, got, want)
		}
	}
}

// TestP13_4PresentInOrder examines that the order is that of the Keys, not that of the lists or of the numbers.
func TestP13_4PresentInOrder(t *testing.T) {
	nodes := []api.Node{node(1, "d", 1), node(2, "c", 0), node(3, "b", 1), node(4, "a", 0)}
	for _, height := range []int{1, 2, api.MaxLevels} {
		f := made(t, nodes, []int{1, 2, 3, 4}, 1, height)
		for level := range height + 1 {
			if got := Present(f, level); !slices.Equal(got, []int{4, 3, 2, 1}) {
				t.Errorf("at level %d the nodes %v are present", level, got)
			}
		}
	}
	nodes = many(api.MaxNodes)
	f := made(t, nodes, numbers(nodes), 1, api.MaxLevels)
	for _, level := range []int{0, 1, 3, api.MaxLevels} {
		if got := Present(f, level); !slices.Equal(got, numbers(ascending(nodes))) {
			t.Errorf("at level %d the nodes %v are present", level, got)
		}
	}
	if got := Present(made(t, nil, nil, 1, 2), 0); len(got) > 0 {
		t.Errorf("without nodes %v are present", got)
	}
}

func linked(id int, levels ...api.Link) api.Linked { return api.Linked{ID: id, Levels: levels} }

func link(left, right int) api.Link { return api.Link{Left: left, Right: right} }

func wantTheseLinks(t *testing.T, f api.Forest, want ...api.Linked) {
	t.Helper()
	if got := Links(f); !sameLinks(got, want) {
		t.Errorf("the links of %v are %v, not %v", f, got, want)
	}
}

func TestP13_4Links(t *testing.T) {
	f := made(t, four(), []int{2, 4, 7, 9}, 1, 2)
	wantTheseLinks(t, f,
		linked(4, link(0, 2), link(0, 0), link(0, 0)), linked(2, link(4, 7), link(0, 7), link(0, 0)),
		linked(7, link(2, 9), link(2, 9), link(0, 9)), linked(9, link(7, 0), link(7, 0), link(7, 0)))
	wantTheseLinks(t, made(t, four(), []int{9}, 1, 1), linked(9, link(0, 0), link(0, 0)))
	wantTheseLinks(t, made(t, four(), nil, 1, 1))
	wantTheseLinks(t, made(t, nil, nil, 1, 1))
}

// TestP13_4AnyCells examines links as they are, whether they make sense or not.
func TestP13_4AnyCells(t *testing.T) {
	f := made(t, four(), []int{2, 4, 7, 9}, 1, 1)
	// The head to the right, the tail to the left, and the cell itself.
	c := cellOf(&f, 0, 7)
	c.Left, c.Right = 1, 0
	c = cellOf(&f, 1, 7)
	c.Left, c.Right = 3, 2
	// The same cell on both sides, and a cell that is Gone.
	c = cellOf(&f, 1, 9)
	c.Left, c.Right = 2, 2
	cellOf(&f, 0, 2).Gone = true
	wantTheseLinks(t, f,
		linked(4, link(0, 2), link(0, 0)), linked(7, link(0, 0), link(7, 2)), linked(9, link(7, 0), link(2, 2)))
}

// TestP13_4LinksOfSomeLevels examines a node that is not a member at each level.
func TestP13_4LinksOfSomeLevels(t *testing.T) {
	for in := range 1 << 3 {
		f := made(t, four(), []int{4, 7, 9}, 1, 2)
		want := []api.Link{link(4, 9), link(0, 9), link(0, 9)}
		for level := range 3 {
			if in>>level&1 == 0 {
				// The links of the cell stay, as they do when a node leaves.
				cellOf(&f, level, 7).Gone = true
				want[level] = api.Link{}
			}
		}
		links := []api.Linked{linked(4, link(0, 7), link(0, 0), link(0, 0)), linked(7, want...), linked(9, link(7, 0), link(7, 0), link(7, 0))}
		if in&1 == 0 {
			// Whoever is not at level 0 is not there.
			links = slices.Delete(links, 1, 2)
		}
		wantTheseLinks(t, f, links...)
	}
}

// TestP13_4WhileANodeJoins follows the links of the node 7 and of its neighbours from step to step.
func TestP13_4WhileANodeJoins(t *testing.T) {
	// 2 and 9 are the neighbours at the levels 0 and 1, and 9 is the only other node in the list of level 2.
	f := begun(t, made(t, four(), []int{2, 9}, 1, 2), 0, api.OpInsert, 7)
	apart := []api.Linked{linked(2, link(0, 9), link(0, 9), link(0, 0)), linked(9, link(2, 0), link(2, 0), link(0, 0))}
	f = until(t, f, 0, 0, api.PhaseLink0)
	wantTheseLinks(t, f, apart...)
	f = after(t, f, 0, 1)
	wantTheseLinks(t, f, apart...)
	f = after(t, f, 0, 1)
	// The node to the right does not know it yet.
	wantTheseLinks(t, f, linked(2, link(0, 7), link(0, 9), link(0, 0)), linked(7, link(2, 9), link(0, 0), link(0, 0)), linked(9, link(2, 0), link(2, 0), link(0, 0)))
	f = after(t, f, 0, 1)
	joined := []api.Linked{linked(2, link(0, 7), link(0, 9), link(0, 0)), linked(7, link(2, 9), link(0, 0), link(0, 0)), linked(9, link(7, 0), link(2, 0), link(0, 0))}
	wantTheseLinks(t, f, joined...)
	f = until(t, f, 0, 1, api.PhaseLink1)
	wantTheseLinks(t, f, joined...)
	f = after(t, f, 0, 1)
	wantTheseLinks(t, f, linked(2, link(0, 7), link(0, 7), link(0, 0)), linked(7, link(2, 9), link(2, 9), link(0, 0)), linked(9, link(7, 0), link(2, 0), link(0, 0)))
	f = until(t, f, 0, 2, api.PhaseLink1)
	wantTheseLinks(t, f, linked(2, link(0, 7), link(0, 7), link(0, 0)), linked(7, link(2, 9), link(2, 9), link(0, 0)), linked(9, link(7, 0), link(7, 0), link(0, 0)))
	f = ended(t, f, 0)
	wantTheseLinks(t, f, linked(2, link(0, 7), link(0, 7), link(0, 0)), linked(7, link(2, 9), link(2, 9), link(0, 9)), linked(9, link(7, 0), link(7, 0), link(7, 0)))
}

// TestP13_4WhileANodeLeaves follows the links of the node 7 and of its neighbours from step to step.
func TestP13_4WhileANodeLeaves(t *testing.T) {
	f := begun(t, made(t, four(), []int{2, 7, 9}, 1, 2), 0, api.OpRemove, 7)
	together := []api.Linked{linked(2, link(0, 7), link(0, 7), link(0, 0)), linked(7, link(2, 9), link(2, 9), link(0, 9)), linked(9, link(7, 0), link(7, 0), link(7, 0))}
	f = until(t, f, 0, 2, api.PhaseUnlink0)
	wantTheseLinks(t, f, together...)
	f = after(t, f, 0, 1)
	// The node to the right still knows it.
	wantTheseLinks(t, f, together[0], linked(7, link(2, 9), link(2, 9), link(0, 0)), together[2])
	f = until(t, f, 0, 1, api.PhaseUnlink1)
	wantTheseLinks(t, f, together[0], linked(7, link(2, 9), link(0, 0), link(0, 0)), linked(9, link(7, 0), link(7, 0), link(0, 0)))
	f = after(t, f, 0, 1)
	wantTheseLinks(t, f, linked(2, link(0, 7), link(0, 9), link(0, 0)), linked(7, link(2, 9), link(0, 0), link(0, 0)), linked(9, link(7, 0), link(7, 0), link(0, 0)))
	f = until(t, f, 0, 0, api.PhaseUnlink0)
	wantTheseLinks(t, f, linked(2, link(0, 7), link(0, 9), link(0, 0)), linked(7, link(2, 9), link(0, 0), link(0, 0)), linked(9, link(7, 0), link(2, 0), link(0, 0)))
	f = after(t, f, 0, 1)
	// The links to it are there even while it is not.
	wantTheseLinks(t, f, linked(2, link(0, 7), link(0, 9), link(0, 0)), linked(9, link(7, 0), link(2, 0), link(0, 0)))
	wantTheseLinks(t, ended(t, f, 0), linked(2, link(0, 9), link(0, 9), link(0, 0)), linked(9, link(2, 0), link(2, 0), link(0, 0)))
}

// TestP13_4AllMembers compares the links of New with those of ideal.Build for all nodes that may be there.
func TestP13_4AllMembers(t *testing.T) {
	var d dice
	for range 100 {
		nodes := d.roster(d.below(6))
		height := d.below(4)
		for in := range 1 << len(nodes) {
			there := some(nodes, in)
			want, err := ideal.Build(there, height)
			if err != api.OK {
				t.Fatal(err)
			}
			f := made(t, nodes, numbers(there), 1, height)
			wantTheseLinks(t, f, want...)
			for level := range height + 1 {
				if got := Present(f, level); !slices.Equal(got, numbers(ascending(there))) {
					t.Errorf("at level %d of %v the nodes %v are present", level, f, got)
				}
			}
		}
	}
}

package ideal

import (
	"math"
	"slices"
	"testing"

	"skipgraph/api"
)

// four are nodes at a, b, c and d with the words 00, 01, 10 and 11.
func four() []api.Node {
	return nodes(node(8, "a", 0), node(2, "b", 1), node(5, "c", 2), node(1, "d", 3))
}

func ids(l []api.Node) []int {
	var out []int
	for _, x := range l {
		out = append(out, x.ID)
	}
	return out
}

func equal(a, b [][]int) bool { return slices.EqualFunc(a, b, slices.Equal[[]int]) }

// linkIn returns the neighbours of a node in a list.
func linkIn(list []api.Node, id int) api.Link {
	var link api.Link
	for i, x := range list[1:] {
		if x.ID == id {
			link.Left = list[i].ID
		}
		if list[i].ID == id {
			link.Right = x.ID
		}
	}
	return link
}

// listsOf returns the lists of a level in the order of their first nodes.
func listsOf(l []api.Node, level int) [][]int {
	if len(l) == 0 {
		return nil
	}
	var out [][]int
	// The list of level 0 has all nodes in order.
	for _, x := range through(l, l[0], 0) {
		if list := through(l, x, level); list[0] == x {
			out = append(out, ids(list))
		}
	}
	return out
}

func wantNeighbours(t *testing.T, l []api.Node, id, level int, want api.Link) {
	t.Helper()
	for _, l := range orders(l) {
		if got, ok := Neighbours(l, id, level); !ok || got != want {
			t.Errorf("Neighbours(%v, %d, %d) = %v, %t, not %v", l, id, level, got, ok, want)
		}
	}
}

func wantNoNeighbours(t *testing.T, l []api.Node, id, level int) {
	t.Helper()
	if got, ok := Neighbours(l, id, level); ok || got != (api.Link{}) {
		t.Errorf("Neighbours(%v, %d, %d) = %v, %t", l, id, level, got, ok)
	}
}

func wantLists(t *testing.T, l []api.Node, level int, want [][]int) {
	t.Helper()
	for _, l := range orders(l) {
		if got := Lists(l, level); !equal(got, want) {
			t.Errorf("Lists(%v, %d) = %v, not %v", l, level, got, want)
		}
	}
}

func TestP6_2Neighbours(t *testing.T) {
	for _, x := range []struct {
		id, level int
		want      api.Link
	}{
		{8, 0, api.Link{Right: 2}}, {2, 0, api.Link{Left: 8, Right: 5}}, {5, 0, api.Link{Left: 2, Right: 1}}, {1, 0, api.Link{Left: 5}},
		{8, 1, api.Link{Right: 5}}, {5, 1, api.Link{Left: 8}}, {2, 1, api.Link{Right: 1}}, {1, 1, api.Link{Left: 2}},
		{8, 2, api.Link{}}, {2, 2, api.Link{}}, {5, 2, api.Link{}}, {1, 2, api.Link{}}, {8, 3, api.Link{}}, {1, api.MaxLevels, api.Link{}},
	} {
		wantNeighbours(t, four(), x.id, x.level, x.want)
	}
}

func TestP6_2Examples(t *testing.T) {
	twins := nodes(node(1, "a", 0), node(2, "b", 1), node(3, "c", 0))
	wantNeighbours(t, twins, 1, 0, api.Link{Right: 2})
	for level := 1; level <= api.MaxLevels; level++ {
		wantNeighbours(t, twins, 1, level, api.Link{Right: 3})
		wantNeighbours(t, twins, 2, level, api.Link{})
		wantNeighbours(t, twins, 3, level, api.Link{Left: 1})
	}
	different := nodes(node(1, "a", 0), node(2, "b", 1), node(3, "c", 2))
	wantNeighbours(t, different, 1, 1, api.Link{Right: 3})
	wantNeighbours(t, different, 3, 1, api.Link{Left: 1})
	wantNeighbours(t, different, 1, 2, api.Link{})
	wantNeighbours(t, different, 3, 2, api.Link{})
}

func TestP6_2OneNode(t *testing.T) {
	for level := range api.MaxLevels + 1 {
		wantNeighbours(t, nodes(node(1, "", 0)), 1, level, api.Link{})
		wantNeighbours(t, nodes(node(math.MaxInt32, greatest, 1<<16-1)), math.MaxInt32, level, api.Link{})
		wantNoNeighbours(t, nil, 1, level)
		wantNoNeighbours(t, nodes(), 0, level)
	}
}

func TestP6_2WordsThatDifferInOneBit(t *testing.T) {
	for i := range api.MaxLevels {
		l := nodes(node(3, "a", 9), node(2, "b", 9^1<<i))
		for level := range api.MaxLevels + 1 {
			var left, right api.Link
			if level <= i {
				left, right = api.Link{Right: 2}, api.Link{Left: 3}
			}
			wantNeighbours(t, l, 3, level, left)
			wantNeighbours(t, l, 2, level, right)
		}
	}
}

func TestP6_2NeighboursOfAllNodes(t *testing.T) {
	for _, l := range sampleRosters() {
		for _, x := range l {
			for level := range api.MaxLevels + 1 {
				want := linkIn(through(l, x, level), x.ID)
				for _, l := range [][]api.Node{l, reversed(l)} {
					if got, ok := Neighbours(l, x.ID, level); !ok || got != want {
						t.Errorf("Neighbours(%v, %d, %d) = %v, %t, not %v", l, x.ID, level, got, ok, want)
					}
				}
			}
		}
	}
}

func TestP6_2NoSuchNodeOrLevel(t *testing.T) {
	for _, l := range specialRosters() {
		for _, id := range []int{0, -1, 6000, 1 << 31, 1<<32 + 1, 1<<32 + 8, math.MinInt, math.MaxInt} {
			wantNoNeighbours(t, l, id, 0)
			wantNoNeighbours(t, l, id, 1)
			wantNoNeighbours(t, l, id, api.MaxLevels)
		}
		for _, level := range noLevels {
			for _, x := range l {
				wantNoNeighbours(t, l, x.ID, level)
			}
			wantNoNeighbours(t, l, 0, level)
		}
	}
}

func TestP6_2NoRoster(t *testing.T) {
	for _, l := range noRosters() {
		for _, level := range []int{-1, 0, 1, api.MaxLevels, api.MaxLevels + 1} {
			for _, x := range l {
				wantNoNeighbours(t, l, x.ID, level)
			}
			wantNoNeighbours(t, l, 1, level)
			wantNoNeighbours(t, l, 6000, level)
		}
	}
}

func TestP6_3Lists(t *testing.T) {
	wantLists(t, four(), 0, [][]int{{8, 2, 5, 1}})
	wantLists(t, four(), 1, [][]int{{8, 5}, {2, 1}})
	for level := 2; level <= api.MaxLevels; level++ {
		wantLists(t, four(), level, [][]int{{8}, {2}, {5}, {1}})
	}
	// The order is that of the first nodes' Keys, not that of their words or IDs.
	wantLists(t, nodes(node(9, "a", 3), node(4, "b", 2), node(6, "c", 1), node(5, "d", 0)), 1, [][]int{{9, 6}, {4, 5}})
	// Keys are compared bytewise.
	wantLists(t, nodes(node(6, "", 0), node(5, "\x00", 1), node(4, "B", 1), node(3, "a", 0), node(2, "aa", 1), node(1, "\xff", 0)), 1, [][]int{{6, 3, 1}, {5, 4, 2}})
}

func TestP6_3ExamplesOfTheDocument(t *testing.T) {
	l := nodes(node(1, "a", 0), node(2, "b", 1), node(3, "c", 2))
	wantLists(t, l, 0, [][]int{{1, 2, 3}})
	wantLists(t, l, 1, [][]int{{1, 3}, {2}})
	wantLists(t, l, 2, [][]int{{1}, {2}, {3}})
	twins := nodes(node(1, "a", 0), node(2, "b", 1), node(3, "c", 0))
	for level := 1; level <= api.MaxLevels; level++ {
		wantLists(t, twins, level, [][]int{{1, 3}, {2}})
	}
}

func TestP6_3FewNodes(t *testing.T) {
	for level := range api.MaxLevels + 1 {
		wantLists(t, nil, level, nil)
		wantLists(t, nodes(node(7, "m", 1<<15)), level, [][]int{{7}})
	}
}

func TestP6_3ListsOfAllLevels(t *testing.T) {
	for _, l := range sampleRosters() {
		for level := range api.MaxLevels + 1 {
			wantLists(t, l, level, listsOf(l, level))
		}
	}
}

func TestP6_3EachListIsDividedIntoAtMostTwo(t *testing.T) {
	for _, l := range sampleRosters() {
		for level := range api.MaxLevels {
			for _, list := range Lists(l, level) {
				parts, size := 0, 0
				for _, part := range Lists(l, level+1) {
					if slices.Contains(list, part[0]) {
						parts++
						size += len(part)
					}
				}
				if parts < 1 || parts > 2 || size != len(list) {
					t.Errorf("the list %v of the level %d of %v is divided into %d lists with %d nodes", list, level, l, parts, size)
				}
			}
		}
	}
}

func TestP6_3NoLists(t *testing.T) {
	for _, l := range append(specialRosters(), noRosters()...) {
		for _, level := range noLevels {
			if got := Lists(l, level); len(got) > 0 {
				t.Errorf("Lists(%v, %d) = %v", l, level, got)
			}
		}
	}
	for _, l := range noRosters() {
		for level := range api.MaxLevels + 1 {
			if got := Lists(l, level); len(got) > 0 {
				t.Errorf("Lists(%v, %d) = %v", l, level, got)
			}
		}
	}
}

package inspect

import (
	"slices"
	"testing"

	"skipgraph/api"
	"skipgraph/ideal"
)

// together reports whether two words agree in their first bits, as many as level says.
func together(a, b uint32, level int) bool {
	for range level {
		if a%2 != b%2 {
			return false
		}
		a, b = a/2, b/2
	}
	return true
}

// kindOf returns the kind of a defect of the node x, as the promise lists the kinds.
func kindOf(l []api.Node, x api.Node, d api.Defect) int {
	if d.Have == 0 {
		return api.DefectMissing
	}
	place := slices.IndexFunc(l, func(y api.Node) bool { return y.ID == d.Have })
	if place < 0 {
		return api.DefectDangling
	}
	y := l[place]
	if d.Have == x.ID || d.Side == api.Left && y.Key >= x.Key || d.Side == api.Right && y.Key <= x.Key {
		return api.DefectSide
	}
	if !together(x.Word, y.Word, d.Level) {
		return api.DefectGroup
	}
	return api.DefectSkips
}

// neighboursOf returns the neighbours of the nodes of l by their numbers, at all levels.
func neighboursOf(l []api.Node) map[int][]api.Link {
	out := map[int][]api.Link{}
	for _, x := range l {
		for level := range api.MaxLevels + 1 {
			link, _ := ideal.Neighbours(l, x.ID, level)
			out[x.ID] = append(out[x.ID], link)
		}
	}
	return out
}

// defectsOf finds the defects one by one.
func defectsOf(l []api.Node, neighbours map[int][]api.Link, links []api.Linked, height int) []api.Defect {
	var out []api.Defect
	for _, x := range ascending(l) {
		for level := range height + 1 {
			have, want := linkOf(links, x.ID, level), neighbours[x.ID][level]
			left := api.Defect{ID: x.ID, Level: level, Side: api.Left, Have: have.Left, Want: want.Left}
			right := api.Defect{ID: x.ID, Level: level, Side: api.Right, Have: have.Right, Want: want.Right}
			if left.Have != left.Want {
				left.Kind = kindOf(l, x, left)
				out = append(out, left)
			}
			if right.Have != right.Want {
				right.Kind = kindOf(l, x, right)
				out = append(out, right)
			}
		}
	}
	return out
}

// wantDefects examines Check for the nodes in several orders.
func wantDefects(t *testing.T, l []api.Node, links []api.Linked, height int, want []api.Defect) {
	t.Helper()
	for _, l := range orders(l) {
		if got := Check(l, links, height); !slices.Equal(got, want) {
			t.Errorf("Check(%v, %v, %d) = %v, not %v", l, links, height, got, want)
		}
	}
}

// changed returns exact links of which one is another one.
func changed(l []api.Node, height, id, level, side, have int) []api.Linked {
	out := exact(l, height)
	place := slices.IndexFunc(out, func(x api.Linked) bool { return x.ID == id })
	if side == api.Left {
		out[place].Levels[level].Left = have
	} else {
		out[place].Levels[level].Right = have
	}
	return out
}

// wantDefect examines Check where one link is wrong.
func wantDefect(t *testing.T, l []api.Node, height int, d api.Defect) {
	t.Helper()
	wantDefects(t, l, changed(l, height, d.ID, d.Level, d.Side, d.Have), height, []api.Defect{d})
}

// twins are five nodes of which the first, the third, the fourth and the last one have equal words.
func twins() []api.Node {
	return nodes(node(6, "a", 9), node(3, "b", 8), node(9, "c", 9), node(4, "d", 9), node(2, "e", 9))
}

func TestP7_2EachKindOnEachSide(t *testing.T) {
	for _, d := range []api.Defect{
		{Kind: api.DefectMissing, ID: 9, Side: api.Left, Have: 0, Want: 3}, {Kind: api.DefectMissing, ID: 9, Side: api.Right, Have: 0, Want: 4},
		{Kind: api.DefectDangling, ID: 9, Side: api.Left, Have: 7, Want: 3}, {Kind: api.DefectDangling, ID: 9, Side: api.Right, Have: 7, Want: 4},
		{Kind: api.DefectSide, ID: 9, Side: api.Left, Have: 9, Want: 3}, {Kind: api.DefectSide, ID: 9, Side: api.Right, Have: 9, Want: 4},
		{Kind: api.DefectSide, ID: 9, Side: api.Left, Have: 4, Want: 3}, {Kind: api.DefectSide, ID: 9, Side: api.Right, Have: 3, Want: 4},
		{Kind: api.DefectSide, ID: 9, Side: api.Left, Have: 2, Want: 3}, {Kind: api.DefectSide, ID: 9, Side: api.Right, Have: 6, Want: 4},
		{Kind: api.DefectSkips, ID: 9, Side: api.Left, Have: 6, Want: 3}, {Kind: api.DefectSkips, ID: 9, Side: api.Right, Have: 2, Want: 4},
		// The first and the last node have no neighbour on one side.
		{Kind: api.DefectDangling, ID: 6, Side: api.Left, Have: -6}, {Kind: api.DefectSide, ID: 6, Side: api.Left, Have: 3}, {Kind: api.DefectSide, ID: 6, Side: api.Left, Have: 6},
		{Kind: api.DefectDangling, ID: 2, Side: api.Right, Have: -2}, {Kind: api.DefectSide, ID: 2, Side: api.Right, Have: 4}, {Kind: api.DefectSide, ID: 2, Side: api.Right, Have: 2},
		{Kind: api.DefectMissing, ID: 6, Side: api.Right, Have: 0, Want: 3}, {Kind: api.DefectMissing, ID: 2, Side: api.Left, Have: 0, Want: 4},
	} {
		wantDefect(t, twins(), 0, d)
		wantDefect(t, twins(), api.MaxLevels, d)
	}
}

func TestP7_2EachKindAtHigherLevels(t *testing.T) {
	for level := 1; level <= api.MaxLevels; level++ {
		for _, d := range []api.Defect{
			{Kind: api.DefectMissing, ID: 9, Side: api.Left, Have: 0, Want: 6}, {Kind: api.DefectMissing, ID: 4, Side: api.Right, Have: 0, Want: 2},
			{Kind: api.DefectDangling, ID: 9, Side: api.Left, Have: 7, Want: 6}, {Kind: api.DefectDangling, ID: 4, Side: api.Right, Have: 1<<32 + 2, Want: 2},
			{Kind: api.DefectSide, ID: 9, Side: api.Left, Have: 9, Want: 6}, {Kind: api.DefectSide, ID: 4, Side: api.Right, Have: 9, Want: 2},
			{Kind: api.DefectGroup, ID: 9, Side: api.Left, Have: 3, Want: 6}, {Kind: api.DefectGroup, ID: 6, Side: api.Right, Have: 3, Want: 9},
			{Kind: api.DefectGroup, ID: 3, Side: api.Left, Have: 6}, {Kind: api.DefectGroup, ID: 3, Side: api.Right, Have: 9}, {Kind: api.DefectGroup, ID: 3, Side: api.Right, Have: 2},
			{Kind: api.DefectSkips, ID: 4, Side: api.Left, Have: 6, Want: 9}, {Kind: api.DefectSkips, ID: 9, Side: api.Right, Have: 2, Want: 4}, {Kind: api.DefectSkips, ID: 6, Side: api.Right, Have: 4, Want: 9},
		} {
			d.Level = level
			wantDefect(t, twins(), level, d)
			wantDefect(t, twins(), api.MaxLevels, d)
		}
	}
}

func TestP7_2SeveralKindsApply(t *testing.T) {
	l := four()
	for _, d := range []api.Defect{
		// A number that no node has is on no side and in no list; a node on the wrong side may be in another list, or farther away.
		{Kind: api.DefectDangling, ID: 5, Level: 1, Side: api.Left, Have: 3, Want: 8}, {Kind: api.DefectSide, ID: 5, Level: 1, Side: api.Left, Have: 1, Want: 8},
		{Kind: api.DefectSide, ID: 2, Level: 1, Side: api.Right, Have: 8, Want: 1}, {Kind: api.DefectSide, ID: 8, Level: 2, Side: api.Left, Have: 1},
		// A node in another list may be farther away than the neighbour, or less far.
		{Kind: api.DefectGroup, ID: 8, Level: 1, Side: api.Right, Have: 1, Want: 5}, {Kind: api.DefectGroup, ID: 8, Level: 1, Side: api.Right, Have: 2, Want: 5},
		{Kind: api.DefectGroup, ID: 1, Level: 1, Side: api.Left, Have: 8, Want: 2}, {Kind: api.DefectGroup, ID: 1, Level: 1, Side: api.Left, Have: 5, Want: 2},
		{Kind: api.DefectGroup, ID: 8, Level: 2, Side: api.Right, Have: 5}, {Kind: api.DefectGroup, ID: 1, Level: 2, Side: api.Left, Have: 2},
		// A missing link differs from all nodes.
		{Kind: api.DefectMissing, ID: 8, Level: 1, Side: api.Right, Have: 0, Want: 5}, {Kind: api.DefectMissing, ID: 1, Level: 1, Side: api.Left, Have: 0, Want: 2},
	} {
		wantDefect(t, l, 2, d)
	}
}

// The links of two nodes to each other are right at the levels at which their words are the Same, and at no higher one.
func TestP7_2WordsThatDifferInOneBit(t *testing.T) {
	for i := range api.MaxLevels {
		l := nodes(node(3, "a", 9), node(2, "b", 9^1<<i))
		links := linked(element(3, slices.Repeat([]api.Link{link(0, 2)}, api.MaxLevels+1)...), element(2, slices.Repeat([]api.Link{link(3, 0)}, api.MaxLevels+1)...))
		var left, right []api.Defect
		for level := i + 1; level <= api.MaxLevels; level++ {
			left = append(left, api.Defect{Kind: api.DefectGroup, ID: 3, Level: level, Side: api.Right, Have: 2})
			right = append(right, api.Defect{Kind: api.DefectGroup, ID: 2, Level: level, Side: api.Left, Have: 3})
		}
		wantDefects(t, l, links, api.MaxLevels, append(left, right...))
	}
}

func TestP7_2Order(t *testing.T) {
	links := linked(
		element(1, link(5, 2), link(5, 8)), element(5, link(1, 1), link(8, 3)), element(2, link(0, 5), link(2, 2)), element(5, link(2, 1), link(8, 0)), element(4, link(9, 9)),
	)
	wantDefects(t, four(), links, 1, []api.Defect{
		{Kind: api.DefectMissing, ID: 8, Level: 0, Side: api.Right, Have: 0, Want: 2}, {Kind: api.DefectMissing, ID: 8, Level: 1, Side: api.Right, Have: 0, Want: 5},
		{Kind: api.DefectMissing, ID: 2, Level: 0, Side: api.Left, Have: 0, Want: 8}, {Kind: api.DefectSide, ID: 2, Level: 1, Side: api.Left, Have: 2, Want: 0}, {Kind: api.DefectSide, ID: 2, Level: 1, Side: api.Right, Have: 2, Want: 1},
		{Kind: api.DefectSide, ID: 5, Level: 0, Side: api.Left, Have: 1, Want: 2}, {Kind: api.DefectDangling, ID: 5, Level: 1, Side: api.Right, Have: 3, Want: 0},
		{Kind: api.DefectSide, ID: 1, Level: 0, Side: api.Right, Have: 2, Want: 0}, {Kind: api.DefectGroup, ID: 1, Level: 1, Side: api.Left, Have: 5, Want: 2}, {Kind: api.DefectSide, ID: 1, Level: 1, Side: api.Right, Have: 8, Want: 0},
	})
}

func TestP7_2ExactLinksHaveNoDefects(t *testing.T) {
	for _, l := range allRosters() {
		for _, height := range []int{0, 1, 7, api.MaxLevels} {
			for _, links := range orders(exact(l, height)) {
				wantDefects(t, l, links, height, nil)
			}
			// Levels above the height, elements of other numbers, and later ones of the same numbers do not matter.
			links := append(linked(element(6000, link(1, 1))), exact(l, api.MaxLevels)...)
			wantDefects(t, l, append(links, twisted(l, height)...), height, nil)
		}
	}
}

func TestP7_2MissingLinks(t *testing.T) {
	for _, l := range allRosters() {
		for _, height := range []int{0, 2, api.MaxLevels} {
			var want []api.Defect
			for _, x := range exact(l, height) {
				for level, link := range x.Levels {
					if link.Left != 0 {
						want = append(want, api.Defect{Kind: api.DefectMissing, ID: x.ID, Level: level, Side: api.Left, Want: link.Left})
					}
					if link.Right != 0 {
						want = append(want, api.Defect{Kind: api.DefectMissing, ID: x.ID, Level: level, Side: api.Right, Want: link.Right})
					}
				}
			}
			wantDefects(t, l, nil, height, want)
			for i, x := range exact(l, height) {
				// Without the element of one node, its defects are left.
				wantDefects(t, l, without(exact(l, height), i), height, slices.DeleteFunc(slices.Clone(want), func(d api.Defect) bool { return d.ID != x.ID }))
			}
		}
	}
}

func TestP7_2Example(t *testing.T) {
	wantDefects(t, nodes(node(1, "a", 0), node(2, "b", 1)), nil, 0, []api.Defect{
		{Kind: api.DefectMissing, ID: 1, Side: api.Right, Want: 2}, {Kind: api.DefectMissing, ID: 2, Side: api.Left, Want: 1},
	})
}

func TestP7_2OneWrongLink(t *testing.T) {
	for _, l := range sampleRosters() {
		neighbours := neighboursOf(l)
		numbers := append([]int{0}, strangers...)
		for _, x := range l {
			numbers = append(numbers, x.ID, -x.ID, 1<<32+x.ID)
		}
		for _, x := range l {
			for _, level := range []int{0, 1, 2, api.MaxLevels} {
				for _, have := range numbers {
					left, right := changed(l, api.MaxLevels, x.ID, level, api.Left, have), changed(l, api.MaxLevels, x.ID, level, api.Right, have)
					wantOneDefect(t, l, left, defectsOf(l, neighbours, left, api.MaxLevels), have != neighbours[x.ID][level].Left)
					wantOneDefect(t, l, right, defectsOf(l, neighbours, right, api.MaxLevels), have != neighbours[x.ID][level].Right)
				}
			}
		}
	}
}

// wantOneDefect examines Check for links with one defect, or with none where they are exact after all.
func wantOneDefect(t *testing.T, l []api.Node, links []api.Linked, want []api.Defect, wrong bool) {
	t.Helper()
	if wrong != (len(want) == 1) || len(want) > 1 {
		t.Fatalf("the links %v of %v have the defects %v", links, l, want)
	}
	if got := Check(l, links, api.MaxLevels); !slices.Equal(got, want) {
		t.Fatalf("Check(%v, %v, %d) = %v, not %v", l, links, api.MaxLevels, got, want)
	}
}

func TestP7_2DefectsOfAllLinks(t *testing.T) {
	for _, l := range allRosters() {
		neighbours := neighboursOf(l)
		for i, links := range sampleLinks(l) {
			for _, height := range []int{0, 1 + i%5, api.MaxLevels} {
				want := defectsOf(l, neighbours, links, height)
				for _, l := range [][]api.Node{l, reversed(l)} {
					if got := Check(l, links, height); !slices.Equal(got, want) {
						t.Fatalf("Check(%v, %v, %d) = %v, not %v", l, links, height, got, want)
					}
				}
			}
		}
	}
}

// There is no defect exactly if Normal is the result of ideal.Build.
func TestP7_2NoDefectsOfNormalLinksThatAreExact(t *testing.T) {
	for _, l := range allRosters() {
		for _, links := range sampleLinks(l) {
			for _, height := range []int{0, 1, 2, 3, api.MaxLevels - 1, api.MaxLevels} {
				if none := len(Check(l, links, height)) == 0; none != ideal.Same(Normal(l, links, height), exact(l, height)) {
					t.Fatalf("the links %v of %v have no defects: %t", links, l, none)
				}
			}
		}
	}
}

func TestP7_2NothingToCheck(t *testing.T) {
	for _, l := range allRosters() {
		for _, height := range noLevels {
			wantDefects(t, l, nil, height, nil)
			wantDefects(t, l, twisted(l, 3), height, nil)
		}
	}
	for _, l := range noRosters() {
		for _, links := range noRosterLinks(l) {
			for _, height := range []int{-1, 0, 1, api.MaxLevels, api.MaxLevels + 1} {
				wantDefects(t, l, links, height, nil)
			}
		}
	}
	for height := range api.MaxLevels + 1 {
		wantDefects(t, nil, twisted(four(), 3), height, nil)
		wantDefects(t, nodes(node(4, "d", 1)), nil, height, nil)
	}
}

package inspect

import (
	"slices"
	"testing"

	"skipgraph/api"
	"skipgraph/ideal"
)

func equal(a, b [][]int) bool { return slices.EqualFunc(a, b, slices.Equal[[]int]) }

// oneNames reports whether one of two nodes is a link of the element of the other one at a level.
func oneNames(links []api.Linked, a, b, level int) bool {
	x, y := linkOf(links, a, level), linkOf(links, b, level)
	return x.Left == b || x.Right == b || y.Left == a || y.Right == a
}

// reached returns the numbers of the nodes that chains of links of some levels join to x, ascending by their Keys.
func reached(l []api.Node, links []api.Linked, x api.Node, levels []int) []int {
	in := map[int]bool{x.ID: true}
	for more := true; more; {
		more = false
		for _, a := range l {
			for _, b := range l {
				joined := func(level int) bool { return oneNames(links, a.ID, b.ID, level) }
				if in[a.ID] && !in[b.ID] && slices.ContainsFunc(levels, joined) {
					in[b.ID] = true
					more = true
				}
			}
		}
	}
	var out []int
	for _, y := range ascending(l) {
		if in[y.ID] {
			out = append(out, y.ID)
		}
	}
	return out
}

// componentsOf follows the links of some levels from each node.
func componentsOf(l []api.Node, links []api.Linked, levels []int) [][]int {
	var out [][]int
	for _, x := range ascending(l) {
		if all := reached(l, links, x, levels); all[0] == x.ID {
			out = append(out, all)
		}
	}
	return out
}

func allLevels() []int {
	var out []int
	for level := range api.MaxLevels + 1 {
		out = append(out, level)
	}
	return out
}

// wantComponents examines Components for the nodes in several orders.
func wantComponents(t *testing.T, l []api.Node, links []api.Linked, level int, want [][]int) {
	t.Helper()
	for _, l := range orders(l) {
		if got := Components(l, links, level); !equal(got, want) {
			t.Errorf("Components(%v, %v, %d) = %v, not %v", l, links, level, got, want)
		}
	}
}

// wantConnected examines Connected for the nodes in several orders.
func wantConnected(t *testing.T, l []api.Node, links []api.Linked, want bool) {
	t.Helper()
	for _, l := range orders(l) {
		if got := Connected(l, links); got != want {
			t.Errorf("Connected(%v, %v) = %t", l, links, got)
		}
	}
}

// single are the components of four without any links.
func single() [][]int { return [][]int{{8}, {2}, {5}, {1}} }

func TestP7_4LinksInOneDirection(t *testing.T) {
	// One link on either side of one of two nodes joins them, whichever of them is to the left.
	for _, x := range four() {
		for _, y := range four() {
			for _, between := range []api.Link{link(y.ID, 0), link(0, y.ID), link(y.ID, y.ID), link(y.ID, 77), link(-1, y.ID)} {
				var want [][]int
				for _, z := range four() {
					if z != x && z != y {
						want = append(want, []int{z.ID})
					}
				}
				both := []int{x.ID, y.ID}
				if y.Key < x.Key {
					slices.Reverse(both)
				}
				want = append(want, slices.Compact(both))
				slices.SortFunc(want, func(a, b []int) int {
					place := func(id int) int { return slices.IndexFunc(four(), func(z api.Node) bool { return z.ID == id }) }
					return place(a[0]) - place(b[0])
				})
				wantComponents(t, four(), linked(element(x.ID, between)), 0, want)
			}
		}
	}
}

func TestP7_4Chains(t *testing.T) {
	wantComponents(t, four(), linked(element(8, link(0, 5)), element(5, link(1, 0))), 0, [][]int{{8, 5, 1}, {2}})
	wantComponents(t, four(), linked(element(1, link(8, 0)), element(5, link(8, 0))), 0, [][]int{{8, 5, 1}, {2}})
	wantComponents(t, four(), linked(element(8, link(1, 5))), 0, [][]int{{8, 5, 1}, {2}})
	wantComponents(t, four(), linked(element(8, link(0, 1)), element(2, link(5, 0))), 0, [][]int{{8, 1}, {2, 5}})
	// The link that joins two pairs comes last.
	wantComponents(t, four(), linked(element(8, link(0, 1)), element(2, link(5, 0)), element(1, link(0, 2))), 0, [][]int{{8, 2, 5, 1}})
	wantComponents(t, four(), linked(element(8, link(0, 2)), element(5, link(0, 1)), element(2, link(0, 1))), 0, [][]int{{8, 2, 5, 1}})
	wantComponents(t, four(), linked(element(2, link(5, 1))), 0, [][]int{{8}, {2, 5, 1}})
}

func TestP7_4OnlyTheFirstElementCounts(t *testing.T) {
	wantComponents(t, four(), linked(element(8, link(0, 1)), element(8, link(0, 2))), 0, [][]int{{8, 1}, {2}, {5}})
	wantComponents(t, four(), linked(element(8), element(8, link(0, 2))), 0, single())
	wantComponents(t, four(), linked(element(8, link(0, 0)), element(8, link(0, 2))), 0, single())
	wantConnected(t, four()[:2], linked(element(8), element(8, link(0, 2))), false)
	wantConnected(t, four()[:2], linked(element(8, link(0, 0)), element(8, link(0, 2))), false)
	wantConnected(t, four()[:2], linked(element(8, link(2, 0)), element(8)), true)
}

func TestP7_4NumbersThatNoNodeHas(t *testing.T) {
	// Two nodes with a link to the same number that no node has are not joined, and neither are those that its element names.
	for _, id := range append([]int{0}, strangers...) {
		links := linked(element(id, link(8, 2)), element(8, link(id, id)), element(2, link(id, 0)), element(5, link(0, id)), element(1, link(id, id)))
		wantComponents(t, four(), links, 0, single())
		wantConnected(t, four(), links, false)
	}
	// The nodes of another roster are such numbers too.
	wantComponents(t, nodes(four()[0], four()[2]), exact(four(), 0), 0, [][]int{{8}, {5}})
	wantConnected(t, nodes(four()[0], four()[2]), exact(four(), 0), false)
	wantConnected(t, nodes(four()[0], four()[2]), exact(four(), 1), true)
}

func TestP7_4OneLevelOnly(t *testing.T) {
	for at := range api.MaxLevels + 1 {
		levels := make([]api.Link, api.MaxLevels+1)
		levels[at] = link(0, 1)
		for level := range api.MaxLevels + 1 {
			want := single()
			if level == at {
				want = [][]int{{8, 1}, {2}, {5}}
			}
			wantComponents(t, four(), linked(element(8, levels...)), level, want)
		}
		wantConnected(t, nodes(four()[0], four()[3]), linked(element(8, levels...)), true)
		wantConnected(t, nodes(four()[0], four()[3]), linked(element(8, levels[:at]...)), false)
		wantConnected(t, four(), linked(element(8, levels...)), false)
	}
}

func TestP7_4ConnectedByAllLevels(t *testing.T) {
	links := linked(element(8, link(0, 0), link(0, 5)), element(2, link(0, 0), link(0, 0), link(0, 1)), element(5, append(make([]api.Link, api.MaxLevels), link(0, 2))...))
	wantComponents(t, four(), links, 0, single())
	wantComponents(t, four(), links, 1, [][]int{{8, 5}, {2}, {1}})
	wantComponents(t, four(), links, 2, [][]int{{8}, {2, 1}, {5}})
	wantComponents(t, four(), links, api.MaxLevels, [][]int{{8}, {2, 5}, {1}})
	wantConnected(t, four(), links, true)
	for i := range links {
		wantConnected(t, four(), without(links, i), false)
	}
}

func TestP7_4LevelsAboveMaxLevels(t *testing.T) {
	for _, level := range []int{api.MaxLevels, api.MaxLevels + 1, api.MaxLevels + 2, 100} {
		links := linked(element(2, append(make([]api.Link, level), link(8, 0), link(8, 0))...))
		wantConnected(t, four()[:2], links, level == api.MaxLevels)
		if level > api.MaxLevels {
			wantComponents(t, four(), links, api.MaxLevels, single())
		}
		wantComponents(t, four(), links, api.MaxLevels+1, nil)
	}
}

func TestP7_4FewNodes(t *testing.T) {
	one := nodes(node(7, "m", 3))
	for level := range api.MaxLevels + 1 {
		wantComponents(t, nil, nil, level, nil)
		wantComponents(t, nodes(), exact(four(), 2), level, nil)
		wantComponents(t, one, nil, level, [][]int{{7}})
		wantComponents(t, one, twisted(four(), level), level, [][]int{{7}})
	}
	for _, links := range [][]api.Linked{nil, linked(), exact(four(), 2), linked(element(7, link(7, 7))), linked(element(7, link(1, -1)))} {
		wantConnected(t, nil, links, true)
		wantConnected(t, nodes(), links, true)
		wantConnected(t, one, links, true)
	}
	wantConnected(t, nodes(node(1, "a", 0), node(2, "b", 0)), nil, false)
}

func TestP7_4Example(t *testing.T) {
	l := nodes(node(1, "a", 0), node(2, "b", 1))
	wantComponents(t, l, nil, 0, [][]int{{1}, {2}})
	wantConnected(t, l, nil, false)
}

// Exact links have, at each level, the components that ideal.Lists names.
func TestP7_4ComponentsOfExactLinks(t *testing.T) {
	for _, l := range allRosters() {
		for level := range api.MaxLevels + 1 {
			wantComponents(t, l, exact(l, api.MaxLevels), level, ideal.Lists(l, level))
			wantComponents(t, l, reversed(exact(l, level)), level, ideal.Lists(l, level))
			wantConnected(t, l, exact(l, level), true)
		}
		var alone [][]int
		for _, x := range l {
			alone = append(alone, []int{x.ID})
		}
		wantComponents(t, l, exact(l, 3), 4, alone)
		wantComponents(t, l, nil, 0, alone)
		wantConnected(t, l, nil, len(l) <= 1)
	}
}

func TestP7_4ComponentsOfAllLinks(t *testing.T) {
	connected := 0
	for _, l := range sampleRosters() {
		for _, links := range sampleLinks(l) {
			for _, level := range []int{0, 1, 3, api.MaxLevels} {
				wantComponents(t, l, links, level, componentsOf(l, links, []int{level}))
			}
			want := len(componentsOf(l, links, allLevels())) <= 1
			wantConnected(t, l, links, want)
			if want {
				connected++
			}
		}
	}
	for _, l := range fullRosters()[:2] {
		for _, links := range [][]api.Linked{twisted(l, 6001), sparse(l, 7001)} {
			wantComponents(t, l, links, 0, componentsOf(l, links, []int{0}))
		}
	}
	if connected < 20 {
		t.Errorf("the links of only %d samples connect all nodes", connected)
	}
}

func TestP7_4LongChains(t *testing.T) {
	for _, l := range fullRosters() {
		for _, step := range []int{1, 2, 7, 31, 63} {
			var links []api.Linked
			want := make([][]int, step)
			for i, x := range l {
				if i+step < len(l) {
					links = append(links, element(x.ID, link(l[i+step].ID, 0)))
				}
				want[i%step] = append(want[i%step], x.ID)
			}
			for _, links := range orders(links) {
				wantComponents(t, l, links, 0, want)
				wantConnected(t, l, links, step == 1)
			}
		}
	}
}

func TestP7_4NoComponents(t *testing.T) {
	for _, l := range allRosters() {
		for _, level := range noLevels {
			wantComponents(t, l, nil, level, nil)
			wantComponents(t, l, exact(l, api.MaxLevels), level, nil)
		}
	}
	for _, l := range noRosters() {
		for _, links := range noRosterLinks(l) {
			for _, level := range []int{-1, 0, 1, api.MaxLevels, api.MaxLevels + 1} {
				wantComponents(t, l, links, level, nil)
			}
			wantConnected(t, l, links, false)
		}
	}
}

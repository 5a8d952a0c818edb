package search

import (
	"math"
	"slices"
	"testing"

	"skipgraph/api"
	"skipgraph/ideal"
	"skipgraph/roster"
)

func cloned(l []api.Linked) []api.Linked {
	var out []api.Linked
	for _, x := range l {
		out = append(out, element(x.ID, slices.Clone(x.Levels)...))
	}
	return out
}

// without returns links without those of an element.
func without(l []api.Linked, place int) []api.Linked {
	return append(cloned(l)[:place], cloned(l)[place+1:]...)
}

// picker returns a function that picks numbers below n, others for each seed.
func picker(seed int) func(n int) int {
	next := seed
	return func(n int) int {
		next = (next*75 + 74) % 65537
		return next * n / 65537
	}
}

// twisted returns links of the nodes of l that are wrong in many ways, each a little different by its seed.
func twisted(l []api.Node, seed int) []api.Linked {
	numbers := append([]int{0, 0}, strangers...)
	for _, x := range l {
		numbers = append(numbers, x.ID, x.ID)
	}
	pick := picker(seed)
	out := linked(element(6000, link(1, 2)), element(0, link(2, 1)))
	for range len(l) + 2 {
		var levels []api.Link
		for range pick(api.MaxLevels + 4) {
			levels = append(levels, link(numbers[pick(len(numbers))], numbers[pick(len(numbers))]))
		}
		out = append(out, element(numbers[pick(len(numbers))], levels...))
	}
	return out
}

// tangled returns links in which each node has an element, of any number of levels, whose links are nodes on any side.
func tangled(l []api.Node, seed int) []api.Linked {
	pick := picker(seed)
	var out []api.Linked
	for _, x := range l {
		var levels []api.Link
		for range pick(api.MaxLevels + 6) {
			levels = append(levels, link(l[pick(len(l))].ID, l[pick(len(l))].ID))
		}
		out = append(out, element(x.ID, levels...))
	}
	return out
}

// sampleLinks returns links of the nodes of a roster of all kinds: exact ones, exact ones that are changed, and wrong ones.
func sampleLinks(l []api.Node) [][]api.Linked {
	out := [][]api.Linked{nil, linked(), exact(l, 0), exact(l, ideal.Height(l)), exact(l, api.MaxLevels), reversed(exact(l, 2))}
	for i, x := range l {
		if i > 7 {
			break
		}
		doubled := append(linked(element(x.ID)), exact(l, 2)...)
		longer := exact(l, api.MaxLevels)
		longer[i].Levels = append(longer[i].Levels, link(l[0].ID, l[len(l)-1].ID), link(l[0].ID, l[len(l)-1].ID))
		shorter := exact(l, api.MaxLevels)
		shorter[i].Levels = shorter[i].Levels[:2*i]
		out = append(out, without(exact(l, api.MaxLevels), i), doubled, longer, shorter)
	}
	for seed := range 12 {
		out = append(out, twisted(l, seed*5001), tangled(l, seed*4001), reversed(tangled(l, seed*3001)))
	}
	return out
}

// levelsOf returns the links of the first element with a number.
func levelsOf(links []api.Linked, id int) []api.Link {
	for _, x := range links {
		if x.ID == id {
			return x.Levels
		}
	}
	return nil
}

// nodeBehind returns the node to which a link of the first element with a number leads.
func nodeBehind(l []api.Node, links []api.Linked, id, level, side int) (api.Node, bool) {
	levels := levelsOf(links, id)
	if level >= len(levels) {
		return api.Node{}, false
	}
	to := levels[level].Right
	if side == api.Left {
		to = levels[level].Left
	}
	for _, x := range l {
		if x.ID == to {
			return x, true
		}
	}
	return api.Node{}, false
}

// routeOf follows the chapter's words step by step.
func routeOf(l []api.Node, links []api.Linked, x api.Node, key string) []api.Hop {
	var out []api.Hop
	level := min(len(levelsOf(links, x.ID))-1, api.MaxLevels)
	if key >= x.Key {
		for level >= 0 {
			y, found := nodeBehind(l, links, x.ID, level, api.Right)
			if found && y.Key > x.Key && y.Key <= key {
				out = append(out, hop(x.ID, y.ID, level))
				x = y
			} else {
				level--
			}
		}
		return out
	}
	for level >= 0 {
		y, found := nodeBehind(l, links, x.ID, level, api.Left)
		if found && y.Key < x.Key && y.Key > key {
			out = append(out, hop(x.ID, y.ID, level))
			x = y
		} else {
			level--
		}
	}
	if y, found := nodeBehind(l, links, x.ID, 0, api.Left); found && y.Key <= key {
		out = append(out, hop(x.ID, y.ID, 0))
	}
	return out
}

func TestP8_1OneLinkToTheRight(t *testing.T) {
	for level := range api.MaxLevels + 1 {
		for _, x := range []struct {
			to   int
			key  string
			hops bool
		}{
			{5, "c", true}, {5, "cc", true}, {5, "d", true}, {5, "z", true},
			// It may lead past the next node, and not beyond the key.
			{1, "d", true}, {1, "z", true}, {1, "cc", false}, {1, "c", false}, {5, "bb", false}, {5, "b", false},
			// It leads to no node, to the node itself, and to the wrong side.
			{0, "z", false}, {-1, "z", false}, {3, "z", false}, {1<<32 + 5, "z", false}, {math.MinInt, "z", false}, {math.MaxInt, "z", false},
			{2, "z", false}, {2, "b", false}, {8, "z", false}, {8, "b", false},
			// To the left there is no such link.
			{5, "ab", false}, {8, "a", false}, {8, "", false},
		} {
			levels := make([]api.Link, level+1)
			levels[level].Right = x.to
			var want []api.Hop
			if x.hops {
				want = hops(hop(2, x.to, level))
			}
			wantRoute(t, four(), linked(element(2, levels...)), 2, x.key, want)
			// There may be higher levels without links.
			wantRoute(t, four(), linked(element(2, append(levels, link(0, 0), link(6000, -1))...)), 2, x.key, want)
		}
	}
}

func TestP8_1OneLinkToTheLeft(t *testing.T) {
	for level := range api.MaxLevels + 1 {
		for _, x := range []struct {
			to   int
			key  string
			hops bool
		}{
			{2, "ab", true}, {2, "a", true}, {2, "", true},
			// It may lead past the next node, and not to the key or beyond it; only at level 0 it may, at the end.
			{8, "A", true}, {8, "", true}, {2, "bb", level == 0}, {2, "b", level == 0}, {8, "bb", level == 0}, {8, "b", level == 0}, {8, "ab", level == 0}, {8, "a", level == 0},
			// It leads to no node, to the node itself, and to the wrong side.
			{0, "", false}, {-1, "", false}, {3, "", false}, {1<<32 + 2, "", false}, {math.MinInt, "", false}, {math.MaxInt, "", false},
			{5, "", false}, {5, "bb", false}, {1, "", false}, {1, "bb", false},
			// To the right there is no such link.
			{2, "c", false}, {8, "z", false}, {1, "z", false},
		} {
			levels := make([]api.Link, level+1)
			levels[level].Left = x.to
			var want []api.Hop
			if x.hops {
				want = hops(hop(5, x.to, level))
			}
			wantRoute(t, four(), linked(element(5, levels...)), 5, x.key, want)
			wantRoute(t, four(), linked(element(5, append(levels, link(0, 0), link(6000, -1))...)), 5, x.key, want)
		}
	}
}

func TestP8_1TheLastHop(t *testing.T) {
	// There is one at most, even if it does not lead to the owner.
	links := linked(element(1, link(2, 0)), element(2, link(8, 5)), element(8, link(0, 2)), element(5, link(2, 1)))
	wantRoute(t, four(), links, 1, "cc", hops(hop(1, 2, 0)))
	wantRoute(t, four(), links, 1, "b", hops(hop(1, 2, 0)))
	wantRoute(t, four(), links, 1, "ab", hops(hop(1, 2, 0), hop(2, 8, 0)))
	wantRoute(t, four(), linked(element(1, link(8, 0), link(5, 0)), element(5, link(8, 0)), element(8, link(0, 2))), 1, "b", hops(hop(1, 5, 1), hop(5, 8, 0)))
	// Its level is 0, although there is the same link at a higher one.
	wantRoute(t, four(), linked(element(1, link(5, 0), link(5, 0), link(5, 0))), 1, "c", hops(hop(1, 5, 0)))
	// The links of level 0 of the last node count.
	wantRoute(t, four(), linked(element(1, link(8, 0), link(5, 0)), element(5, link(0, 0), link(2, 0))), 1, "b", hops(hop(1, 5, 1)))
	wantRoute(t, four(), linked(element(1, link(8, 0), link(5, 0)), element(5, link(1, 0))), 1, "b", hops(hop(1, 5, 1)))
	wantRoute(t, four(), linked(element(1, link(8, 0), link(5, 0))), 1, "b", hops(hop(1, 5, 1)))
	// A search to the right has no such hop.
	wantRoute(t, four(), linked(element(2, link(8, 5)), element(5, link(2, 0))), 2, "cc", hops(hop(2, 5, 0)))
	wantRoute(t, four(), linked(element(2, link(8, 0))), 2, "b", nil)
}

func TestP8_1LevelsOfElements(t *testing.T) {
	many := make([]api.Link, api.MaxLevels+3)
	for level := range many {
		many[level] = link(8, 1)
	}
	most := slices.Clone(many)
	clear(most[:api.MaxLevels+1])
	// Levels above MaxLevels do not count.
	wantRoute(t, four(), linked(element(2, many...)), 2, "z", hops(hop(2, 1, api.MaxLevels)))
	wantRoute(t, four(), linked(element(5, many...)), 5, "", hops(hop(5, 8, api.MaxLevels)))
	wantRoute(t, four(), linked(element(2, most...)), 2, "z", nil)
	wantRoute(t, four(), linked(element(5, most...)), 5, "", nil)
	wantRoute(t, four(), linked(element(5, most...)), 5, "a", nil)
	// A node has fewer levels than the one before, or none, or no element: the search goes on at a lower level, or ends.
	high := make([]api.Link, 5)
	high[4] = link(2, 5)
	wantRoute(t, four(), linked(element(8, high...), element(5, link(0, 0), link(0, 1))), 8, "z", hops(hop(8, 5, 4), hop(5, 1, 1)))
	wantRoute(t, four(), linked(element(1, high...), element(2, link(0, 0), link(8, 0))), 1, "", hops(hop(1, 2, 4), hop(2, 8, 1)))
	wantRoute(t, four(), linked(element(8, high...), element(5)), 8, "z", hops(hop(8, 5, 4)))
	wantRoute(t, four(), linked(element(1, high...), element(2)), 1, "a", hops(hop(1, 2, 4)))
	wantRoute(t, four(), linked(element(8, high...)), 8, "z", hops(hop(8, 5, 4)))
	wantRoute(t, four(), linked(element(1, high...)), 1, "a", hops(hop(1, 2, 4)))
	// A node has more levels than the one before, which are too high for the search.
	wantRoute(t, four(), linked(element(8, link(0, 2), link(0, 2)), element(2, link(0, 0), link(0, 0), link(0, 1))), 8, "z", hops(hop(8, 2, 1)))
	wantRoute(t, four(), linked(element(8, link(0, 2)), element(2, link(0, 5), link(0, 1))), 8, "z", hops(hop(8, 2, 0), hop(2, 5, 0)))
	wantRoute(t, four(), linked(element(1, link(5, 0), link(5, 0)), element(5, link(0, 0), link(0, 0), link(8, 0))), 1, "", hops(hop(1, 5, 1)))
	wantRoute(t, four(), linked(element(1, link(5, 0)), element(5, link(2, 0), link(8, 0))), 1, "", hops(hop(1, 5, 0), hop(5, 2, 0)))
	// The level never increases again.
	wantRoute(t, four(), linked(element(8, link(0, 2), link(0, 0)), element(2, link(0, 0), link(0, 1))), 8, "z", hops(hop(8, 2, 0)))
}

func TestP8_1Elements(t *testing.T) {
	for _, links := range [][]api.Linked{
		nil, linked(), linked(element(8)), linked(element(3, link(0, 2))), linked(element(5, link(2, 1)), element(2, link(8, 5)), element(1, link(5, 0))),
		// The first element counts, even if it has no levels or no links.
		linked(element(8), element(8, link(0, 2))), linked(element(8, link(0, 0)), element(8, link(0, 2), link(0, 5))), linked(element(8, link(0, 9)), element(8, link(0, 2))),
		linked(element(-8, link(0, 2)), element(1<<32+8, link(0, 2)), element(0, link(0, 2))),
	} {
		wantRoute(t, four(), links, 8, "z", nil)
	}
	wantRoute(t, four(), linked(element(7, link(0, 5)), element(8, link(0, 2)), element(8, link(0, 5), link(0, 1)), element(8)), 8, "z", hops(hop(8, 2, 0)))
	wantRoute(t, four(), linked(element(2, link(0, 1)), element(8, link(0, 2)), element(2, link(0, 5))), 8, "z", hops(hop(8, 2, 0), hop(2, 1, 0)))
	wantRoute(t, four(), linked(element(1), element(1, link(5, 0))), 1, "a", nil)
	wantRoute(t, four(), linked(element(1), element(1, link(5, 0))), 1, "c", nil)
	wantRoute(t, four(), linked(element(1, link(2, 0)), element(1, link(5, 0)), element(2), element(2, link(8, 0))), 1, "a", hops(hop(1, 2, 0)))
	// The order of the elements does not matter otherwise.
	for _, links := range orders(exact(four(), 2)) {
		wantRoute(t, four(), links, 8, "d", hops(hop(8, 5, 1), hop(5, 1, 0)))
		wantRoute(t, four(), links, 1, "a", hops(hop(1, 2, 1), hop(2, 8, 0)))
	}
}

// Keys are compared bytewise.
func TestP8_1OrderOfKeys(t *testing.T) {
	l := nodes(node(4, "", 0), node(3, "B", 0), node(9, "a", 0), node(1, "a\x00", 0), node(2, "aa", 0), node(7, "\x80", 0), node(6, "\xff", 0), node(5, greatest, 0))
	links := exact(l, 0)
	place := map[string]int{"": 0, "\x00": 0, "A": 0, "B": 1, "Z": 1, "a": 2, "a\x00": 3, "a\x00\x00": 3, "a ": 3, "aa": 4, "b": 4, "z\xff": 4, "\x80": 5, "\xc3\xa4": 5, "\xff": 6, "\xff\x00": 6, greatest: 7, greatest[1:]: 6}
	for key, end := range place {
		for i, x := range l {
			got, err := Route(l, links, x.ID, key)
			if err != api.OK || End(x.ID, got) != l[end].ID || len(got) != max(end-i, i-end) {
				t.Errorf("the search from %d for %q has the hops %v", x.ID, key, got)
			}
		}
	}
}

// All links of level 0 of three nodes are tried.
func TestP8_1AllLinksOfThreeNodes(t *testing.T) {
	l := nodes(node(1, "b", 0), node(2, "d", 1), node(3, "f", 2))
	keys := []string{"a", "b", "c", "d", "e", "f", "g"}
	for n := range 1 << 12 {
		number := func(i int) int { return n >> (2 * i) & 3 }
		links := linked(element(3, link(number(0), number(1))), element(1, link(number(2), number(3))), element(2, link(number(4), number(5))))
		for _, x := range l {
			for _, key := range keys {
				if got, err := Route(l, links, x.ID, key); err != api.OK || !slices.Equal(got, routeOf(l, links, x, key)) {
					t.Fatalf("Route(%v, %v, %d, %q) = %v, %d", l, links, x.ID, key, got, err)
				}
			}
		}
	}
}

func TestP8_1RoutesOverAllLinks(t *testing.T) {
	for _, l := range allRosters() {
		keys, from := keysAround(l), l
		if len(l) > 8 {
			keys, from = someOf(keys, 8), someOf(l, 4)
		}
		for i, links := range sampleLinks(l) {
			given := orders(l)[i%len(orders(l))]
			for _, x := range from {
				for _, key := range keys {
					if got, err := Route(given, links, x.ID, key); err != api.OK || !slices.Equal(got, routeOf(l, links, x, key)) {
						t.Fatalf("Route(%v, %v, %d, %q) = %v, %d, not %v", given, links, x.ID, key, got, err, routeOf(l, links, x, key))
					}
				}
			}
		}
	}
}

// Whatever the links are, a search goes from node to node towards the key, and visits none of them twice.
func TestP8_1EverySearchEnds(t *testing.T) {
	for _, l := range allRosters() {
		for _, links := range sampleLinks(l) {
			for _, x := range someOf(l, 3) {
				for _, key := range someOf(keysAround(l), 6) {
					got, err := Route(l, links, x.ID, key)
					seen := map[int]bool{x.ID: true}
					at := x.ID
					for _, h := range got {
						if _, found := roster.Find(l, h.To); h.From != at || !found || seen[h.To] || h.Level < 0 || h.Level > api.MaxLevels {
							t.Fatalf("Route(%v, %v, %d, %q) = %v", l, links, x.ID, key, got)
						}
						at = h.To
						seen[at] = true
					}
					if err != api.OK || len(got) >= len(l) || End(x.ID, got) != at {
						t.Fatalf("Route(%v, %v, %d, %q) = %v, %d", l, links, x.ID, key, got, err)
					}
				}
			}
		}
	}
}

// On exact links of a height that is at least ideal.Height, every search ends at the owner, after at most Bound hops.
func TestP8_1SearchesOnExactLinks(t *testing.T) {
	for _, l := range allRosters() {
		from := someOf(l, 20)
		for _, height := range []int{ideal.Height(l), (ideal.Height(l) + api.MaxLevels) / 2, api.MaxLevels} {
			links := exact(l, height)
			for _, x := range from {
				bound := Bound(l, x.ID)
				for _, key := range someOf(keysAround(l), 40) {
					got, err := Route(l, links, x.ID, key)
					owner, _ := roster.Owner(l, key)
					if err != api.OK || End(x.ID, got) != owner.ID || len(got) > bound {
						t.Fatalf("Route(%v, %v, %d, %q) = %v, %d, and not at most %d hops to %d", l, links, x.ID, key, got, err, bound, owner.ID)
					}
				}
			}
		}
	}
}

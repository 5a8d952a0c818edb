package search

import (
	"slices"
	"testing"

	"skipgraph/api"
	"skipgraph/ideal"
)

// spacious returns links with spare capacity, whose elements have it too.
func spacious(l []api.Linked) []api.Linked {
	out := append(cloned(l), element(99, link(1, 2)), element(98, link(3, 4)))
	for i, x := range out {
		out[i].Levels = append(x.Levels, link(7, 8), link(9, 10))[:len(x.Levels)]
	}
	return out[:len(l)]
}

// whole returns the links of l with all that is in the spare capacity.
func whole(l []api.Linked) []api.Linked {
	out := slices.Clone(l[:len(l)+2])
	for i, x := range out {
		out[i].Levels = slices.Clone(x.Levels[:len(x.Levels)+2])
	}
	return out
}

func TestArgumentsStayAsTheyAre(t *testing.T) {
	spare := node(99, "spare", 1)
	for _, l := range append(allRosters(), noRosters()...) {
		for _, links := range [][]api.Linked{nil, exact(l, 1), exact(l, api.MaxLevels), twisted(l, 5)} {
			allNodes := append(reversed(l), spare, spare, spare)
			nodesBefore := slices.Clone(allNodes)
			given, givenLinks := allNodes[:len(l)], spacious(links)
			linksBefore := whole(givenLinks)
			for _, x := range append(someOf(l, 4), spare) {
				for _, key := range []string{"", "b", "k1011", greatest, tooLong} {
					Route(given, givenLinks, x.ID, key)
				}
				for _, level := range []int{-1, 0, 1, api.MaxLevels, api.MaxLevels + 1} {
					Run(given, x.ID, level)
				}
				Bound(given, x.ID)
			}
			if !slices.Equal(allNodes, nodesBefore) || !ideal.Same(whole(givenLinks), linksBefore) {
				t.Fatalf("an argument is changed: %v, not %v, or %v, not %v", allNodes, nodesBefore, whole(givenLinks), linksBefore)
			}
		}
	}
	allHops := hops(hop(1, 2, 3), hop(2, 5, 1), hop(5, 6, 0), hop(7, 8, 9))
	before := slices.Clone(allHops)
	for n := range len(allHops) + 1 {
		End(4, allHops[:n])
		if !slices.Equal(allHops, before) {
			t.Fatalf("the hops are changed: %v", allHops)
		}
	}
}

func TestP8_1HopsShareNoMemory(t *testing.T) {
	for _, l := range allRosters() {
		for _, links := range [][]api.Linked{exact(l, 0), exact(l, api.MaxLevels), tangled(l, 5)} {
			for _, x := range someOf(l, 4) {
				for _, key := range []string{"", "b", "k1011", "k1030x", greatest} {
					first, _ := Route(l, links, x.ID, key)
					second, _ := Route(l, links, x.ID, key)
					before := slices.Clone(second)
					all := first[:cap(first)]
					for i := range all {
						all[i] = hop(-7, -7, -7)
					}
					third, _ := Route(l, links, x.ID, key)
					if !slices.Equal(second, before) || !slices.Equal(third, before) {
						t.Fatalf("the hops from %d for %q share memory", x.ID, key)
					}
				}
			}
		}
	}
}

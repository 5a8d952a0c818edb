package inspect

import (
	"slices"
	"testing"

	"skipgraph/api"
	"skipgraph/ideal"
)

// spacious returns links with spare capacity, whose elements have it too.
func spacious(l []api.Linked) []api.Linked {
	out := append(cloned(l), element(99, link(1, 2)), element(98, link(3, 4)))
	for i, x := range out {
		out[i].Levels = append(x.Levels, link(7, 8), link(9, 10))[:len(x.Levels)]
	}
	return out[:len(l)]
}

// whole returns the links of l with all that is in the spare capacity.
func whole(l []api.Linked) []api.Linked {
	out := slices.Clone(l[:len(l)+2])
	for i, x := range out {
		out[i].Levels = slices.Clone(x.Levels[:len(x.Levels)+2])
	}
	return out
}

func TestArgumentsStayAsTheyAre(t *testing.T) {
	spare := node(99, "spare", 1)
	for _, l := range append(allRosters(), noRosters()...) {
		for _, links := range [][]api.Linked{nil, exact(l, 1), exact(l, api.MaxLevels), twisted(l, 5), sparse(l, 9)} {
			allNodes := append(reversed(l), spare, spare, spare)
			nodesBefore := slices.Clone(allNodes)
			given, givenLinks := allNodes[:len(l)], spacious(links)
			linksBefore := whole(givenLinks)
			for _, level := range []int{-1, 0, 1, api.MaxLevels, api.MaxLevels + 1} {
				Normal(given, givenLinks, level)
				Check(given, givenLinks, level)
				Exact(given, givenLinks, level)
				Components(given, givenLinks, level)
			}
			Connected(given, givenLinks)
			if !slices.Equal(allNodes, nodesBefore) || !ideal.Same(whole(givenLinks), linksBefore) {
				t.Fatalf("an argument is changed: %v, not %v, or %v, not %v", allNodes, nodesBefore, whole(givenLinks), linksBefore)
			}
		}
	}
}

func TestP7_1NormalLinksShareNoMemory(t *testing.T) {
	for _, l := range allRosters() {
		for _, links := range [][]api.Linked{exact(l, api.MaxLevels), twisted(l, 5)} {
			for _, height := range []int{0, 1, 5, api.MaxLevels} {
				given := spacious(links)
				before := whole(given)
				first, second := Normal(l, given, height), Normal(l, given, height)
				for i, x := range first {
					all := x.Levels[:cap(x.Levels)]
					for k := range all {
						all[k] = link(-7, -7)
					}
					// What is written into an element, or behind it, is in no other one, in no other result and in no argument.
					if !ideal.Same(first[i+1:], second[i+1:]) || !ideal.Same(whole(given), before) {
						t.Fatalf("the element %d of the normal links of %v shares memory", i, l)
					}
				}
				clear(first[:cap(first)])
				if !ideal.Same(second, Normal(l, given, height)) || !ideal.Same(whole(given), before) {
					t.Fatalf("the normal links of %v share memory", l)
				}
			}
		}
	}
}

func TestP7_2DefectsShareNoMemory(t *testing.T) {
	for _, l := range allRosters() {
		first, second := Check(l, nil, 2), Check(l, nil, 2)
		before := slices.Clone(second)
		clear(first[:cap(first)])
		if !slices.Equal(second, before) || !slices.Equal(Check(l, nil, 2), before) {
			t.Fatalf("the defects of %v share memory", l)
		}
	}
}

func TestP7_4ComponentsShareNoMemory(t *testing.T) {
	for _, l := range allRosters() {
		for _, links := range append(sampleLinks(l)[:6], twisted(l, 5), sparse(l, 9)) {
			for _, level := range []int{0, 1, api.MaxLevels} {
				first, second := Components(l, links, level), Components(l, links, level)
				for i, set := range first {
					clear(set[:cap(set)])
					if !equal(first[i+1:], second[i+1:]) {
						t.Fatalf("the component %d of %v at the level %d shares memory", i, l, level)
					}
				}
				clear(first[:cap(first)])
				if !equal(second, Components(l, links, level)) {
					t.Fatalf("the components of %v at the level %d share memory", l, level)
				}
			}
		}
	}
}

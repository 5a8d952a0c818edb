package inspect

import (
	"math"
	"testing"

	"skipgraph/api"
)

// wantExact examines Exact for the nodes in several orders.
func wantExact(t *testing.T, l []api.Node, links []api.Linked, height int, want bool) {
	t.Helper()
	for _, l := range orders(l) {
		if got := Exact(l, links, height); got != want {
			t.Errorf("Exact(%v, %v, %d) = %t", l, links, height, got)
		}
	}
}

func TestP7_3Exact(t *testing.T) {
	links := linked(element(8, link(0, 2), link(0, 5)), element(2, link(8, 5), link(0, 1)), element(5, link(2, 1), link(8, 0)), element(1, link(5, 0), link(2, 0)))
	wantExact(t, four(), links, 1, true)
	wantExact(t, four(), links, 0, false)
	wantExact(t, four(), links, 2, false)
	wantExact(t, four(), nil, 1, false)
	wantExact(t, four()[:3], links, 1, false)
	wantExact(t, four()[:3], links[:3], 1, false)
}

func TestP7_3FewNodes(t *testing.T) {
	for height := range api.MaxLevels + 1 {
		wantExact(t, nil, nil, height, true)
		wantExact(t, nodes(), linked(), height, true)
		wantExact(t, nil, linked(api.Linked{}), height, false)
		wantExact(t, nodes(node(7, "m", 3)), linked(element(7, make([]api.Link, height+1)...)), height, true)
		wantExact(t, nodes(node(7, "m", 3)), linked(element(7, make([]api.Link, height)...)), height, false)
		wantExact(t, nodes(node(7, "m", 3)), linked(element(7, make([]api.Link, height+2)...)), height, false)
		wantExact(t, nodes(node(7, "m", 3)), nil, height, false)
	}
}

func TestP7_3BuiltLinks(t *testing.T) {
	for _, l := range allRosters() {
		for _, built := range []int{0, 1, 4, api.MaxLevels} {
			for height := range api.MaxLevels + 1 {
				wantExact(t, l, exact(l, built), height, built == height || len(l) == 0)
			}
		}
	}
}

// changesOfOne returns links that differ from the exact ones in the element with the index i.
func changesOfOne(l []api.Node, height, i int) [][]api.Linked {
	var out [][]api.Linked
	for _, change := range []func(x *api.Linked){
		func(x *api.Linked) { x.ID++ }, func(x *api.Linked) { x.ID += 1 << 32 }, func(x *api.Linked) { x.ID = -x.ID }, func(x *api.Linked) { x.Levels = nil },
		func(x *api.Linked) { x.Levels = x.Levels[:height] }, func(x *api.Linked) { x.Levels = append(x.Levels, api.Link{}) },
		func(x *api.Linked) { x.Levels[0].Left-- }, func(x *api.Linked) { x.Levels[0].Right++ }, func(x *api.Linked) { x.Levels[height].Left = math.MaxInt }, func(x *api.Linked) { x.Levels[height].Right += 1 << 32 },
	} {
		links := exact(l, height)
		change(&links[i])
		out = append(out, links)
	}
	doubled := append(linked(element(l[i].ID)), exact(l, height)...)
	return append(out, doubled, append(exact(l, height), exact(l, height)[i]), without(exact(l, height), i))
}

// Links that Check finds no fault with need not be exact: the order of the elements and the number of their levels matter here.
func TestP7_3OneDifference(t *testing.T) {
	for _, l := range append(sampleRosters(), fullRosters()[1]) {
		for _, height := range []int{0, 2, api.MaxLevels} {
			for i := 0; i < len(l); i += 1 + len(l)/9 {
				for _, links := range changesOfOne(l, height, i) {
					wantExact(t, l, links, height, false)
				}
				if i > 0 {
					links := exact(l, height)
					links[i-1], links[i] = links[i], links[i-1]
					wantExact(t, l, links, height, false)
				}
			}
			wantExact(t, l, append(exact(l, height), element(6000)), height, false)
			wantExact(t, l, append(linked(element(0)), exact(l, height)...), height, false)
		}
	}
}

func TestP7_3NothingIsExact(t *testing.T) {
	for _, l := range allRosters() {
		for _, height := range noLevels {
			wantExact(t, l, nil, height, false)
			wantExact(t, l, exact(l, 0), height, false)
			wantExact(t, l, exact(l, api.MaxLevels), height, false)
		}
	}
	for _, l := range noRosters() {
		for _, links := range noRosterLinks(l) {
			for _, height := range []int{-1, 0, 1, api.MaxLevels, api.MaxLevels + 1} {
				wantExact(t, l, links, height, false)
			}
		}
	}
	// Of a list with the same number twice, no links are exact, not even those of a roster of these nodes.
	wantExact(t, append(four(), four()[0]), exact(four(), 1), 1, false)
}

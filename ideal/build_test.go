package ideal

import (
	"math"
	"slices"
	"testing"

	"skipgraph/api"
)

func linked(l ...api.Linked) []api.Linked { return l }

func links(l ...api.Link) []api.Link { return l }

func wantBuild(t *testing.T, l []api.Node, height int, want []api.Linked) {
	t.Helper()
	for _, l := range orders(l) {
		got, err := Build(l, height)
		if err != api.OK || len(got) != len(want) {
			t.Fatalf("Build(%v, %d) = %v, %d, not %v", l, height, got, err, want)
		}
		for i, x := range want {
			if got[i].ID != x.ID || !slices.Equal(got[i].Levels, x.Levels) {
				t.Errorf("Build(%v, %d) = %v, not %v", l, height, got, want)
			}
		}
	}
}

func wantError(t *testing.T, l []api.Node, height int, want api.Errno) {
	t.Helper()
	if got, err := Build(l, height); err != want || len(got) > 0 {
		t.Errorf("Build(%v, %d) = %v, %d, not %d", l, height, got, err, want)
	}
}

func TestP6_4Build(t *testing.T) {
	wantBuild(t, four(), 0, linked(
		api.Linked{ID: 8, Levels: links(api.Link{Right: 2})}, api.Linked{ID: 2, Levels: links(api.Link{Left: 8, Right: 5})},
		api.Linked{ID: 5, Levels: links(api.Link{Left: 2, Right: 1})}, api.Linked{ID: 1, Levels: links(api.Link{Left: 5})},
	))
	wantBuild(t, four(), 2, linked(
		api.Linked{ID: 8, Levels: links(api.Link{Right: 2}, api.Link{Right: 5}, api.Link{})}, api.Linked{ID: 2, Levels: links(api.Link{Left: 8, Right: 5}, api.Link{Right: 1}, api.Link{})},
		api.Linked{ID: 5, Levels: links(api.Link{Left: 2, Right: 1}, api.Link{Left: 8}, api.Link{})}, api.Linked{ID: 1, Levels: links(api.Link{Left: 5}, api.Link{Left: 2}, api.Link{})},
	))
}

func TestP6_4Examples(t *testing.T) {
	wantBuild(t, nodes(node(1, "a", 0), node(2, "b", 1), node(3, "c", 2)), 2, linked(
		api.Linked{ID: 1, Levels: links(api.Link{Right: 2}, api.Link{Right: 3}, api.Link{})}, api.Linked{ID: 2, Levels: links(api.Link{Left: 1, Right: 3}, api.Link{}, api.Link{})},
		api.Linked{ID: 3, Levels: links(api.Link{Left: 2}, api.Link{Left: 1}, api.Link{})},
	))
	first, second, third := links(api.Link{Right: 2}), links(api.Link{Left: 1, Right: 3}), links(api.Link{Left: 2})
	for range api.MaxLevels {
		first, second, third = append(first, api.Link{Right: 3}), append(second, api.Link{}), append(third, api.Link{Left: 1})
	}
	wantBuild(t, nodes(node(1, "a", 0), node(2, "b", 1), node(3, "c", 0)), api.MaxLevels, linked(api.Linked{ID: 1, Levels: first}, api.Linked{ID: 2, Levels: second}, api.Linked{ID: 3, Levels: third}))
}

func TestP6_4FewNodes(t *testing.T) {
	for height := range api.MaxLevels + 1 {
		wantBuild(t, nil, height, nil)
		wantBuild(t, nodes(), height, nil)
		wantBuild(t, nodes(node(7, "m", 3)), height, linked(api.Linked{ID: 7, Levels: make([]api.Link, height+1)}))
	}
}

func TestP6_4LinksOfAllNodes(t *testing.T) {
	for _, l := range sampleRosters() {
		for _, height := range []int{0, 1, 2, 7, api.MaxLevels - 1, api.MaxLevels} {
			var want []api.Linked
			for len(want) < len(l) {
				x := through(l, l[0], 0)[len(want)]
				element := api.Linked{ID: x.ID}
				for level := range height + 1 {
					element.Levels = append(element.Levels, linkIn(through(l, x, level), x.ID))
				}
				want = append(want, element)
			}
			wantBuild(t, l, height, want)
		}
	}
}

// byID returns the links of the element with a number.
func byID(l []api.Linked, id int) []api.Link {
	return l[slices.IndexFunc(l, func(x api.Linked) bool { return x.ID == id })].Levels
}

func TestP6_4LinksAreMutual(t *testing.T) {
	for _, l := range sampleRosters() {
		built, _ := Build(l, api.MaxLevels)
		for _, x := range built {
			for level, link := range x.Levels {
				if link.Left != 0 && byID(built, link.Left)[level].Right != x.ID || link.Right != 0 && byID(built, link.Right)[level].Left != x.ID {
					t.Errorf("the links %v of the node %d of %v at the level %d are not mutual", link, x.ID, l, level)
				}
			}
		}
	}
}

func TestP6_4NoLinksFromHeightOn(t *testing.T) {
	for _, l := range sampleRosters() {
		height := Height(l)
		if !allAlone(l, height) {
			continue
		}
		built, _ := Build(l, api.MaxLevels)
		for _, x := range built {
			for level := height; level <= api.MaxLevels; level++ {
				if x.Levels[level] != (api.Link{}) {
					t.Errorf("the node %d of %v has the links %v at the level %d", x.ID, l, x.Levels[level], level)
				}
			}
		}
	}
}

func TestP6_4Errors(t *testing.T) {
	for _, l := range noRosters() {
		for height := range api.MaxLevels + 1 {
			wantError(t, l, height, api.ErrInvalid)
		}
		// With a height out of range too, it is the list that is reported.
		for _, height := range noLevels {
			wantError(t, l, height, api.ErrInvalid)
		}
	}
	for _, l := range append(sampleRosters(), nil) {
		for _, height := range noLevels {
			wantError(t, l, height, api.ErrRange)
		}
	}
}

// sample returns links that are equal at each call, with different numbers of levels, and with numbers that no node has.
func sample() []api.Linked {
	return linked(
		api.Linked{ID: 1, Levels: links(api.Link{Right: 2}, api.Link{Left: 7, Right: 3})}, api.Linked{ID: 2}, api.Linked{ID: math.MaxInt, Levels: links(api.Link{Left: math.MinInt, Right: -1})},
		api.Linked{ID: -5, Levels: make([]api.Link, 40)}, api.Linked{}, api.Linked{ID: 1, Levels: links(api.Link{})},
	)
}

func wantSame(t *testing.T, a, b []api.Linked, want bool) {
	t.Helper()
	if Same(a, b) != want || Same(b, a) != want {
		t.Errorf("Same(%v, %v) is not %t in both orders", a, b, want)
	}
}

func TestP6_5Same(t *testing.T) {
	wantSame(t, sample(), sample(), true)
	wantSame(t, nil, linked(), true)
	wantSame(t, nil, nil, true)
	wantSame(t, linked(api.Linked{ID: 3}), linked(api.Linked{ID: 3, Levels: links()}), true)
	wantSame(t, nil, linked(api.Linked{}), false)
	wantSame(t, linked(api.Linked{ID: 3}), linked(api.Linked{ID: 4}), false)
	wantSame(t, linked(api.Linked{ID: 3}), linked(api.Linked{ID: 3, Levels: links(api.Link{})}), false)
	wantSame(t, linked(api.Linked{ID: 3}, api.Linked{ID: 4}), linked(api.Linked{ID: 4}, api.Linked{ID: 3}), false)
	wantSame(t, linked(api.Linked{ID: 3}), linked(api.Linked{ID: 3}, api.Linked{ID: 3}), false)
	// The same links in levels of another order, or divided among elements in another way.
	wantSame(t, linked(api.Linked{Levels: links(api.Link{Left: 1}, api.Link{Left: 2})}), linked(api.Linked{Levels: links(api.Link{Left: 2}, api.Link{Left: 1})}), false)
	wantSame(t, linked(api.Linked{Levels: links(api.Link{Left: 1})}, api.Linked{}), linked(api.Linked{}, api.Linked{Levels: links(api.Link{Left: 1})}), false)
	wantSame(t, linked(api.Linked{Levels: links(api.Link{Left: 1})}), linked(api.Linked{Levels: links(api.Link{Right: 1})}), false)
}

func TestP6_5ListsOfDifferentLengths(t *testing.T) {
	for n := range len(sample()) {
		wantSame(t, sample()[:n], sample(), false)
		wantSame(t, sample()[n+1:], sample(), false)
		wantSame(t, append(sample()[:n], sample()[n+1:]...), sample(), false)
		wantSame(t, sample()[:n], sample()[:n], true)
	}
}

func TestP6_5OneChange(t *testing.T) {
	for i, x := range sample() {
		changed := func(change func(x *api.Linked)) {
			l := sample()
			change(&l[i])
			wantSame(t, l, sample(), false)
		}
		changed(func(x *api.Linked) { x.ID++ })
		changed(func(x *api.Linked) { x.ID = -x.ID + 1<<32 })
		changed(func(x *api.Linked) { x.Levels = append(x.Levels, api.Link{}) })
		for level := range x.Levels {
			changed(func(x *api.Linked) { x.Levels = x.Levels[:level] })
			changed(func(x *api.Linked) { x.Levels[level].Left++ })
			changed(func(x *api.Linked) { x.Levels[level].Right-- })
		}
	}
}

func TestP6_5BuiltLinks(t *testing.T) {
	for _, l := range specialRosters()[1:] {
		for _, height := range []int{0, 1, 6, api.MaxLevels} {
			first, _ := Build(l, height)
			second, _ := Build(reversed(l), height)
			wantSame(t, first, second, true)
			for _, other := range []int{0, 1, 6, api.MaxLevels} {
				third, _ := Build(l, other)
				wantSame(t, first, third, height == other)
			}
			second[len(second)-1].Levels[height].Left += 1000
			wantSame(t, first, second, false)
		}
	}
}

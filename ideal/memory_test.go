package ideal

import (
	"slices"
	"testing"

	"skipgraph/api"
)

func TestNodesStayAsTheyAre(t *testing.T) {
	spare := node(99, "spare", 1)
	for _, l := range append(sampleRosters(), noRosters()...) {
		for _, l := range [][]api.Node{l, reversed(l)} {
			whole := append(slices.Clone(l), spare, spare, spare)
			before := slices.Clone(whole)
			given := whole[:len(l)]
			for _, level := range []int{-1, 0, 1, api.MaxLevels, api.MaxLevels + 1} {
				Height(given)
				Neighbours(given, 1, level)
				Lists(given, level)
				Build(given, level)
			}
			if !slices.Equal(whole, before) {
				t.Fatalf("an argument is changed: %v, not %v", whole, before)
			}
		}
	}
}

func TestLinksStayAsTheyAre(t *testing.T) {
	for _, other := range [][]api.Linked{nil, sample(), sample()[:2], sample()[1:]} {
		a, b := append(sample(), other...), slices.Clone(other)
		for i := range a {
			a[i].Levels = append(a[i].Levels, api.Link{Left: 7})[:len(a[i].Levels)]
		}
		Same(a[:len(sample())], b)
		Same(b, a[:len(sample())])
		Same(a, a)
		for i, x := range append(sample(), other...) {
			spare := a[i].Levels[:len(x.Levels)+1]
			if a[i].ID != x.ID || !slices.Equal(a[i].Levels, x.Levels) || spare[len(x.Levels)] != (api.Link{Left: 7}) {
				t.Fatalf("an argument is changed: %v", a)
			}
		}
		for i, x := range other {
			if b[i].ID != x.ID || !slices.Equal(b[i].Levels, x.Levels) {
				t.Fatalf("an argument is changed: %v", b)
			}
		}
	}
}

func TestListsShareNoMemory(t *testing.T) {
	for _, l := range sampleRosters() {
		for _, level := range []int{0, 1, 2, api.MaxLevels} {
			first, second := Lists(l, level), Lists(l, level)
			for i, list := range first {
				// What is written into a list, or behind it, is in no other one and in no other result.
				clear(list[:cap(list)])
				for k := i + 1; k < len(first); k++ {
					if !slices.Equal(first[k], second[k]) {
						t.Fatalf("the lists %d and %d of %v at the level %d share memory", i, k, l, level)
					}
				}
			}
			clear(first[:cap(first)])
			if !equal(second, listsOf(l, level)) || !equal(Lists(l, level), second) {
				t.Fatalf("the results of two calls with %v share memory", l)
			}
		}
	}
}

func TestBuiltLinksShareNoMemory(t *testing.T) {
	for _, l := range sampleRosters() {
		for _, height := range []int{0, 1, 5, api.MaxLevels} {
			first, _ := Build(l, height)
			second, _ := Build(l, height)
			before, _ := Build(l, height)
			for i, x := range first {
				for k := range x.Levels[:cap(x.Levels)] {
					x.Levels[:cap(x.Levels)][k].Left = -1
				}
				for k := i + 1; k < len(first); k++ {
					if !slices.Equal(first[k].Levels, second[k].Levels) {
						t.Fatalf("the elements %d and %d of the links of %v share memory", i, k, l)
					}
				}
			}
			clear(first[:cap(first)])
			again, _ := Build(l, height)
			if !Same(second, before) || !Same(again, before) {
				t.Fatalf("the results of two calls with %v share memory", l)
			}
		}
	}
}

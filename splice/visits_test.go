package splice

import (
	"slices"
	"testing"

	"skipgraph/api"
	"skipgraph/ideal"
	"skipgraph/roster"
	"skipgraph/search"
)

// visits returns the number of visits of an insertion into exact links.
func visits(t *testing.T, l []api.Node, x api.Node, from, height int) int {
	t.Helper()
	_, n, err := Insert(l, exact(l, height), x, from, height)
	if err != api.OK {
		t.Fatalf("Insert of %v into %v from %d at the height %d has the error %d", x, l, from, height, err)
	}
	return n
}

// ownerID returns the number of the node that owns the Key of x: a search from it has no hops.
func ownerID(l []api.Node, x api.Node) int {
	y, _ := roster.Owner(l, x.Key)
	return y.ID
}

func TestP10_1Example(t *testing.T) {
	if n := visits(t, nil, node(1, "m", 5), 77, 4); n != 0 {
		t.Errorf("an insertion into a network without nodes has %d visits", n)
	}
}

// x is the node at place, and the others are there already.
func TestP10_1VisitsAtEachLevel(t *testing.T) {
	for _, x := range []struct {
		words []uint32
		place int
		want  []int // at the levels 0, 1 and so on; at those that follow, as many as at the last one of these
	}{
		// On both sides there is a node with the same bit, from level 1 on the nearest one.
		{[]uint32{0, 1, 1, 0, 1, 0}, 3, []int{3 + 2, 1 + 1}},
		// On one side there is none: then all nodes of this side are visited, and at the next levels none.
		{[]uint32{1, 1, 1, 0, 1, 0}, 3, []int{3 + 2, 0 + 1}},
		{[]uint32{0, 1, 0, 1, 1, 1}, 2, []int{2 + 3, 1 + 0}},
		// On both sides there is none.
		{[]uint32{1, 1, 0, 1}, 2, []int{2 + 1, 0}},
		{[]uint32{0, 2, 4, 7, 8, 0, 6}, 3, []int{3 + 3, 0}},
		// Behind the first node with the same bit no other one is visited.
		{[]uint32{0, 0, 0, 0, 0, 0, 0}, 2, []int{1 + 1}},
		{[]uint32{1, 0, 1, 1, 0, 0, 1}, 3, []int{1 + 3, 1 + 1}},
		// At level 1, the nodes of other lists are not visited.
		{[]uint32{0, 2, 2, 1, 0, 1, 2, 0}, 4, []int{2 + 2, 3 + 2, 1 + 1}},
		{[]uint32{3, 2, 1, 0, 3, 2, 1, 1, 3}, 4, []int{2 + 2, 2 + 3, 1 + 1}},
		// Bits above the one of the level do not matter.
		{[]uint32{1, 8, 4, 3, 4, 0, 14, 10, 5, 16}, 5, []int{1 + 1, 1 + 3, 3 + 1, 1 + 1, 0 + 1, 0}},
		// Below and above all others.
		{[]uint32{0, 1, 1, 0}, 0, []int{3, 1}}, {[]uint32{0, 1, 1, 0}, 3, []int{3, 1}}, {[]uint32{1, 0, 0, 0}, 0, []int{3, 0}}, {[]uint32{0, 0, 0, 1}, 3, []int{3, 0}},
		// The last bit.
		{[]uint32{1 << 15, 0, 1 << 15, 0, 0}, 2, append(slices.Repeat([]int{1 + 1}, 15), 2+2)},
	} {
		l := withWords(x.words...)
		rest, joins := without(l, x.place), l[x.place]
		sum := 0
		for height := range api.MaxLevels + 1 {
			wantInsert(t, rest, joins, ownerID(rest, joins), height, exact(l, height), sum)
			sum += x.want[min(height, len(x.want)-1)]
		}
	}
}

func TestP10_1VisitsOfTheSearch(t *testing.T) {
	for _, x := range []struct {
		key    string
		from   int
		height int
		want   int
	}{
		// At the height 0 there are no other visits.
		{"dd", 8, 0, 3}, {"dd", 2, 0, 2}, {"dd", 1, 0, 0}, {"bb", 8, 0, 1}, {"bb", 2, 0, 0}, {"bb", 5, 0, 1}, {"bb", 1, 0, 2}, {"A", 8, 0, 0}, {"A", 5, 0, 2}, {"A", 1, 0, 3}, {"ab", 1, 0, 3},
		// By links of level 1 the search is shorter. Then, on its left, the new node meets d and c,
		{"dd", 8, 1, 2 + 2}, {"dd", 2, 1, 1 + 2}, {"dd", 5, 1, 1 + 2}, {"dd", 1, 1, 0 + 2},
		// or on its left b and a, and on its right c,
		{"bb", 8, 1, 1 + 3}, {"bb", 2, 1, 0 + 3}, {"bb", 5, 1, 1 + 3}, {"bb", 1, 1, 2 + 3},
		// or on its right a,
		{"A", 8, 1, 0 + 1}, {"A", 2, 1, 1 + 1}, {"A", 5, 1, 1 + 1}, {"A", 1, 1, 2 + 1},
		// or on its left a, and on its right b and c.
		{"ab", 8, 1, 0 + 3}, {"ab", 2, 1, 1 + 3}, {"ab", 5, 1, 2 + 3}, {"ab", 1, 1, 2 + 3},
	} {
		joins := node(500, x.key, 0)
		wantInsert(t, four(), joins, x.from, x.height, exact(with(four(), joins), x.height), x.want)
	}
}

// At the height 0 a search visits all nodes on its way to the owner.
func TestP10_1VisitsAtTheHeight0(t *testing.T) {
	for _, l := range rosters() {
		for i := 0; i < len(l); i += 1 + len(l)/8 {
			rest := without(l, i)
			for k, y := range rest {
				want := max(i-1, 0) - k
				if n := visits(t, rest, l[i], y.ID, 0); n != max(want, -want) {
					t.Fatalf("an insertion of %v into %v from %d at the height 0 has %d visits, not %d", l[i], rest, y.ID, n, max(want, -want))
				}
			}
		}
	}
}

// Only the search depends on where it begins.
func TestP10_1VisitsFromAllNodes(t *testing.T) {
	for _, l := range rosters() {
		for i := 0; i < len(l); i += 1 + len(l)/3 {
			rest := without(l, i)
			for _, height := range []int{0, 2, api.MaxLevels} {
				for _, y := range someOf(rest, 20) {
					hops, _ := search.Route(rest, exact(rest, height), y.ID, l[i].Key)
					n, least := visits(t, rest, l[i], y.ID, height), visits(t, rest, l[i], ownerID(rest, l[i]), height)
					if n-least != len(hops) {
						t.Fatalf("an insertion of %v into %v has %d visits from %d, and %d from the owner", l[i], rest, n, y.ID, least)
					}
				}
			}
		}
	}
}

// With equal words the nearest node is the one with the same bit.
func TestP10_1VisitsOfEqualWords(t *testing.T) {
	for _, n := range []int{2, 3, 10, api.MaxNodes} {
		l := ranked(n, words[3])
		for i, x := range l {
			sides := 2
			if i == 0 || i == n-1 {
				sides = 1
			}
			rest := without(l, i)
			for height := range api.MaxLevels + 1 {
				if got := visits(t, rest, x, ownerID(rest, x), height); got != sides*height {
					t.Fatalf("an insertion of %v into %v at the height %d has %d visits, not %d", x, rest, height, got, sides*height)
				}
			}
		}
	}
}

// The bounds of the section Consequences, for each level and for the search.
func TestP10_1VisitsAreBounded(t *testing.T) {
	for _, l := range rosters() {
		for i := 0; i < len(l); i += 1 + len(l)/8 {
			rest, x := without(l, i), l[i]
			if len(rest) == 0 {
				continue
			}
			owner := ownerID(rest, x)
			for level := range api.MaxLevels {
				n := visits(t, rest, x, owner, level+1) - visits(t, rest, x, owner, level)
				if most := 2 * (search.Run(l, x.ID, level) + 1); n < 0 || n > most {
					t.Fatalf("an insertion of %v into %v visits %d nodes at level %d, more than %d", x, rest, n, level, most)
				}
			}
			for height := ideal.Height(rest); height <= api.MaxLevels; height++ {
				for _, y := range someOf(rest, 4) {
					n := visits(t, rest, x, y.ID, height) - visits(t, rest, x, owner, height)
					if most := search.Bound(rest, y.ID); n > most {
						t.Fatalf("an insertion of %v into %v from %d has a search of %d visits, more than %d", x, rest, y.ID, n, most)
					}
				}
			}
		}
	}
}

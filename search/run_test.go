package search

import (
	"math"
	"slices"
	"testing"

	"skipgraph/api"
)

// wantRuns examines Run of a node at all levels, which is 0 at those that are not named, and Bound, for the nodes in several orders.
func wantRuns(t *testing.T, l []api.Node, id int, runs map[int]int, bound int) {
	t.Helper()
	for _, l := range orders(l) {
		for level := range api.MaxLevels + 1 {
			if got := Run(l, id, level); got != runs[level] {
				t.Errorf("Run(%v, %d, %d) = %d, not %d", l, id, level, got, runs[level])
			}
		}
		if got := Bound(l, id); got != bound {
			t.Errorf("Bound(%v, %d) = %d, not %d", l, id, got, bound)
		}
	}
}

func TestP8_3Runs(t *testing.T) {
	// The lists through 8 are 8 2 5 1, 8 5 and 8; those through 2 are 8 2 5 1, 2 1 and 2.
	wantRuns(t, four(), 8, map[int]int{0: 1, 1: 1}, 3)
	wantRuns(t, four(), 2, map[int]int{0: 1, 1: 1}, 3)
	wantRuns(t, four(), 5, map[int]int{0: 1, 1: 1}, 3)
	wantRuns(t, four(), 1, map[int]int{0: 1, 1: 1}, 3)
	// The longest run is at the beginning, between two nodes, or at the end.
	for _, x := range []struct {
		words            []uint32
		place, run, last int
	}{
		{[]uint32{1, 1, 1, 0, 1, 1, 0, 1}, 3, 3, 1}, {[]uint32{1, 1, 1, 0, 1, 1, 0, 1}, 6, 3, 1}, {[]uint32{1, 1, 0, 1, 1, 1, 0, 1}, 2, 3, 1}, {[]uint32{1, 1, 0, 1, 1, 1, 0, 1}, 6, 3, 1},
		{[]uint32{1, 1, 0, 1, 0, 1, 1, 1}, 2, 3, 1}, {[]uint32{1, 1, 0, 1, 0, 1, 1, 1}, 4, 3, 1}, {[]uint32{0, 1, 0, 0, 1, 1, 1, 0}, 0, 3, 3}, {[]uint32{0, 1, 0, 0, 1, 1, 1, 0}, 2, 3, 2},
		{[]uint32{0, 1, 0, 0, 1, 1, 1, 0}, 3, 3, 2}, {[]uint32{1, 3, 5, 0, 1, 7, 1, 9, 0, 3}, 3, 4, 1},
	} {
		l := withWords(x.words...)
		wantRuns(t, l, l[x.place].ID, map[int]int{0: x.run, api.MaxLevels: x.last}, 1+x.run+x.last)
	}
}

// Nodes that are next to one another in the list of a level need not be so in that of a lower one.
func TestP8_3NodesOfOtherLists(t *testing.T) {
	// The list of level 1 through the first node has the nodes with even words: those with 2 are out of the list of level 2.
	l := withWords(0, 2, 1, 2, 3, 2, 4, 2, 2, 1)
	wantRuns(t, l, l[0].ID, map[int]int{0: 1, 1: 3, 2: 1}, 6)
	wantRuns(t, l, l[6].ID, map[int]int{0: 1, 1: 3, 2: 1}, 6)
	wantRuns(t, l, l[1].ID, map[int]int{0: 1, 1: 1, 16: 4}, 7)
	wantRuns(t, l, l[3].ID, map[int]int{0: 1, 1: 1, 16: 3}, 6)
	wantRuns(t, l, l[5].ID, map[int]int{0: 1, 1: 1, 16: 2}, 5)
	wantRuns(t, l, l[2].ID, map[int]int{0: 4, 1: 1, 16: 1}, 7)
	wantRuns(t, l, l[4].ID, map[int]int{0: 4, 1: 1}, 6)
}

func TestP8_3EqualWords(t *testing.T) {
	for _, w := range []uint32{0, 1, 7, 1 << 15, 1<<16 - 1} {
		for _, n := range []int{0, 1, 2, 3, 10, 31, api.MaxNodes - 1} {
			l := full(func(int) uint32 { return w })[:n+1]
			for _, i := range []int{0, n / 3, n / 2, n} {
				// Only at MaxLevels there is a next list without the other nodes.
				run := max(i, n-i)
				wantRuns(t, l, l[i].ID, map[int]int{api.MaxLevels: run}, 1+run)
			}
		}
	}
}

func TestP8_3WordsThatDifferInOneBit(t *testing.T) {
	for i := range api.MaxLevels {
		l := nodes(node(3, "a", 9), node(2, "b", 9^1<<i), node(7, "c", 9^1<<i))
		wantRuns(t, l, 3, map[int]int{i: 2}, 3)
		wantRuns(t, l, 2, map[int]int{i: 1, api.MaxLevels: 1}, 3)
		wantRuns(t, l, 7, map[int]int{i: 1, api.MaxLevels: 1}, 3)
	}
}

func TestP8_3DifferentWords(t *testing.T) {
	// At each level every other node of a list is out of the next one.
	l := full(func(i int) uint32 { return uint32(i) })
	for _, i := range []int{0, 1, 30, 63} {
		wantRuns(t, l, l[i].ID, map[int]int{0: 1, 1: 1, 2: 1, 3: 1, 4: 1, 5: 1}, 7)
	}
	// At each level one half of a list is out of the next one.
	l = full(func(i int) uint32 { return uint32(i>>5&1 | i>>3&2 | i>>1&4 | i<<1&8 | i<<3&16 | i<<5&32) })
	for _, i := range []int{0, 1, 30, 63} {
		wantRuns(t, l, l[i].ID, map[int]int{0: 32, 1: 16, 2: 8, 3: 4, 4: 2, 5: 1}, 64)
	}
	// A node leaves the list of each level.
	l = withWords(0, 1<<15, 1<<14, 1<<13, 1<<12, 1<<11, 1<<10, 1<<9, 1<<8, 1<<7, 1<<6, 1<<5, 1<<4, 1<<3, 1<<2, 1<<1, 1)
	runs := map[int]int{}
	for level := range api.MaxLevels {
		runs[level] = 1
		wantRuns(t, l, l[16-level].ID, mapWith(runs, level, 16-level), 17)
	}
	wantRuns(t, l, l[0].ID, runs, 17)
}

// mapWith returns a copy of m with another value for a key.
func mapWith(m map[int]int, key, value int) map[int]int {
	out := map[int]int{key: value}
	for k, v := range m {
		if k != key {
			out[k] = v
		}
	}
	return out
}

func TestP8_3OneNode(t *testing.T) {
	for _, l := range sampleRosters()[1:4] {
		wantRuns(t, l, l[0].ID, nil, 1)
	}
}

// agree reports whether two words agree in their bits below a level.
func agree(a, b uint32, level int) bool {
	for range level {
		if a%2 != b%2 {
			return false
		}
		a, b = a/2, b/2
	}
	return true
}

// runOf looks at all parts of the list of a level through x.
func runOf(l []api.Node, x api.Node, level int) int {
	var list []api.Node
	for _, y := range ascending(l) {
		if agree(x.Word, y.Word, level) {
			list = append(list, y)
		}
	}
	inNext := func(y api.Node) bool {
		if level == api.MaxLevels {
			return y == x
		}
		return agree(x.Word, y.Word, level+1)
	}
	out := 0
	for from := range list {
		for to := from + 1; to <= len(list); to++ {
			if !slices.ContainsFunc(list[from:to], inNext) {
				out = max(out, to-from)
			}
		}
	}
	return out
}

func TestP8_3RunsOfAllNodes(t *testing.T) {
	for _, l := range allRosters() {
		for _, x := range someOf(l, 12) {
			runs := map[int]int{}
			bound := 1
			for level := range api.MaxLevels + 1 {
				runs[level] = runOf(l, x, level)
				bound += runs[level]
			}
			wantRuns(t, l, x.ID, runs, bound)
		}
	}
}

// All words of a few kinds are tried for five nodes.
func TestP8_3AllWordsOfFiveNodes(t *testing.T) {
	kinds := []uint32{0, 1, 2, 1 << 15}
	for n := range 1 << 10 {
		l := withWords(kinds[n&3], kinds[n>>2&3], kinds[n>>4&3], kinds[n>>6&3], kinds[n>>8&3])
		for _, x := range l {
			bound := 1
			for level := range api.MaxLevels + 1 {
				run := Run(l, x.ID, level)
				if want := runOf(l, x, level); run != want {
					t.Fatalf("Run(%v, %d, %d) = %d, not %d", l, x.ID, level, run, want)
				}
				bound += run
			}
			if got := Bound(l, x.ID); got != bound {
				t.Fatalf("Bound(%v, %d) = %d, not %d", l, x.ID, got, bound)
			}
		}
	}
}

func TestP8_3NoLevels(t *testing.T) {
	for _, l := range allRosters() {
		for _, x := range l {
			for _, level := range noLevels {
				if got := Run(l, x.ID, level); got != 0 {
					t.Errorf("Run(%v, %d, %d) = %d", l, x.ID, level, got)
				}
			}
		}
	}
}

// wantNoRuns examines that Run and Bound return 0.
func wantNoRuns(t *testing.T, l []api.Node, id int) {
	t.Helper()
	for _, level := range append([]int{0, 1, api.MaxLevels - 1, api.MaxLevels}, noLevels...) {
		if got := Run(l, id, level); got != 0 {
			t.Errorf("Run(%v, %d, %d) = %d", l, id, level, got)
		}
	}
	if got := Bound(l, id); got != 0 {
		t.Errorf("Bound(%v, %d) = %d", l, id, got)
	}
}

func TestP8_3NoSuchNode(t *testing.T) {
	for _, l := range allRosters() {
		for _, id := range strangers {
			wantNoRuns(t, l, id)
		}
	}
	for _, id := range []int{0, 1, 2, math.MaxInt32} {
		wantNoRuns(t, nil, id)
		wantNoRuns(t, nodes(), id)
	}
}

func TestP8_3NoRoster(t *testing.T) {
	for _, l := range noRosters() {
		for _, id := range []int{0, 1, 2, l[0].ID, l[len(l)-1].ID, 6000} {
			wantNoRuns(t, l, id)
		}
	}
}

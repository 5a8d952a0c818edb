package redundant

import (
	"slices"
	"testing"

	"skipgraph/api"
)

// gapOf looks for the longest part of the nodes in order whose numbers are all in down.
func gapOf(l []api.Node, down []int) int {
	all := ascending(l)
	for size := len(all); size > 0; size-- {
		for begin := range len(all) - size + 1 {
			alive := func(x api.Node) bool { return !slices.Contains(down, x.ID) }
			if !slices.ContainsFunc(all[begin:begin+size], alive) {
				return size
			}
		}
	}
	return 0
}

// wantGap examines Gap for the nodes and the numbers in several orders.
func wantGap(t *testing.T, l []api.Node, want int, down ...int) {
	t.Helper()
	for _, l := range orders(l) {
		for _, down := range orders(down) {
			if got := Gap(l, down); got != want {
				t.Errorf("Gap(%v, %v) = %d, not %d", l, down, got, want)
			}
		}
	}
}

func TestP14_2Gap(t *testing.T) {
	for _, id := range ids(five()) {
		wantGap(t, five(), 1, id)
	}
	// In the order of the Keys: 8 2 5 1 7. Gaps at the beginning, in the middle and at the end.
	wantGap(t, five(), 2, 8, 2)
	wantGap(t, five(), 3, 8, 2, 5)
	wantGap(t, five(), 2, 2, 5)
	wantGap(t, five(), 3, 2, 5, 1)
	wantGap(t, five(), 2, 1, 7)
	wantGap(t, five(), 4, 2, 5, 1, 7)
	wantGap(t, five(), 5, 8, 2, 5, 1, 7)
	// Nodes that are not next to each other do not add up, also if their numbers are.
	wantGap(t, five(), 1, 8, 7)
	wantGap(t, five(), 1, 2, 1)
	wantGap(t, five(), 1, 8, 5, 7)
	// Of several gaps, the longest one counts, wherever it is.
	wantGap(t, five(), 2, 8, 2, 1)
	wantGap(t, five(), 2, 8, 5, 1)
	wantGap(t, five(), 2, 8, 1, 7)
	wantGap(t, five(), 3, 8, 5, 1, 7)
	wantGap(t, five(), 3, 8, 2, 5, 7)
	wantGap(t, five(), 2, 8, 2, 1, 7)
}

func TestP14_2Example(t *testing.T) {
	l := nodes(node(1, "a", 0), node(2, "b", 0), node(3, "c", 0), node(4, "d", 0), node(5, "e", 0))
	wantGap(t, l, 2, 2, 3)
}

func TestP14_2NothingIsDown(t *testing.T) {
	for _, l := range allRosters() {
		wantGap(t, l, 0)
		wantGap(t, l, 0, strangers...)
		for _, id := range strangers {
			wantGap(t, l, 0, id, id)
		}
	}
}

func TestP14_2AllNodesAreDown(t *testing.T) {
	for _, l := range allRosters() {
		wantGap(t, l, len(l), ids(l)...)
		wantGap(t, l, len(l), append(ids(l), strangers...)...)
		for i, x := range l {
			// Only one node is left.
			wantGap(t, l, max(i, len(l)-i-1), slices.DeleteFunc(ids(l), func(id int) bool { return id == x.ID })...)
		}
	}
}

func TestP14_2NumbersTwiceAndNumbersThatNoNodeHas(t *testing.T) {
	wantGap(t, five(), 1, 5, 5)
	wantGap(t, five(), 1, 5, 5, 5, 5, 5, 5)
	wantGap(t, five(), 2, 5, 2, 5, 2)
	for _, id := range strangers {
		wantGap(t, five(), 1, id, 5)
		wantGap(t, five(), 1, 2, id, 1)
		wantGap(t, five(), 2, 5, id, id, 1)
	}
}

func TestP14_2GapsOfAllSets(t *testing.T) {
	for _, l := range sampleRosters() {
		for set := range 1 << len(l) {
			down := []int{0, 6000, -1}
			for i, x := range l {
				if set>>i&1 == 1 {
					down = append(down, x.ID)
				}
			}
			wantGap(t, l, gapOf(l, down), down...)
		}
	}
}

func TestP14_2GapsAnywhere(t *testing.T) {
	for _, l := range fullRosters()[:2] {
		for begin := range l {
			for end := begin; end <= len(l); end++ {
				down := ids(l[begin:end])
				// Single nodes on both sides are in no gap with it.
				for i, x := range l {
					if (i < begin-1 || i > end) && i%2 == 0 {
						down = append(down, x.ID)
					}
				}
				want := end - begin
				if len(down) > want {
					want = max(want, 1)
				}
				if got := Gap(reversed(l), down); got != want {
					t.Fatalf("Gap(%v, %v) = %d, not %d", l, down, got, want)
				}
			}
		}
	}
}

func TestP14_2NoRoster(t *testing.T) {
	for _, l := range noRosters() {
		for _, down := range [][]int{nil, ids(l), ids(five())} {
			if got := Gap(l, down); got != 0 {
				t.Errorf("Gap(%v, %v) = %d", l, down, got)
			}
		}
	}
}

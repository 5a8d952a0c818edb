package splice

import (
	"math"
	"testing"

	"skipgraph/api"
	"skipgraph/ideal"
)

// wantRemove examines Remove for the nodes in several orders.
func wantRemove(t *testing.T, l []api.Node, id, height int, want []api.Linked, count int) {
	t.Helper()
	links := exact(l, height)
	for _, l := range orders(l) {
		got, n, err := Remove(l, links, id, height)
		if err != api.OK || n != count || !ideal.Same(got, want) {
			t.Fatalf("Remove of %d from %v at the height %d is %v, %d, %d, not %v, %d", id, l, height, got, n, err, want, count)
		}
	}
}

// wantNoRemove examines that Remove returns only an error.
func wantNoRemove(t *testing.T, l []api.Node, links []api.Linked, id, height int, want api.Errno) {
	t.Helper()
	if got, n, err := Remove(l, links, id, height); err != want || n != 0 || len(got) > 0 {
		t.Fatalf("Remove(%v, %v, %d, %d) = %v, %d, %d, not the error %d", l, links, id, height, got, n, err, want)
	}
}

// neighboursOf counts the neighbours of a node at the levels up to height.
func neighboursOf(l []api.Node, id, height int) int {
	count := 0
	for level := range height + 1 {
		link, _ := ideal.Neighbours(l, id, level)
		for _, to := range []int{link.Left, link.Right} {
			if to != 0 {
				count++
			}
		}
	}
	return count
}

func TestP10_2Remove(t *testing.T) {
	wantRemove(t, four(), 2, 2, linked(
		element(8, link(0, 5), link(0, 5), link(0, 0)), element(5, link(8, 1), link(8, 0), link(0, 0)), element(1, link(5, 0), link(0, 0), link(0, 0)),
	), 3)
	wantRemove(t, four(), 5, 1, linked(
		element(8, link(0, 2), link(0, 0)), element(2, link(8, 1), link(0, 1)), element(1, link(2, 0), link(2, 0)),
	), 3)
	wantRemove(t, four(), 5, 0, linked(element(8, link(0, 2)), element(2, link(8, 1)), element(1, link(2, 0))), 2)
	// The first one and the last one.
	wantRemove(t, four(), 8, 1, linked(
		element(2, link(0, 5), link(0, 1)), element(5, link(2, 1), link(0, 0)), element(1, link(5, 0), link(2, 0)),
	), 2)
	wantRemove(t, four(), 1, 1, linked(
		element(8, link(0, 2), link(0, 5)), element(2, link(8, 5), link(0, 0)), element(5, link(2, 0), link(8, 0)),
	), 2)
}

func TestP10_2NodesOfRosters(t *testing.T) {
	for _, l := range rosters() {
		for i := 0; i < len(l); i += 1 + len(l)/8 {
			for height := range api.MaxLevels + 1 {
				wantRemove(t, l, l[i].ID, height, exact(without(l, i), height), neighboursOf(l, l[i].ID, height))
			}
		}
	}
}

// All words of a few kinds are tried for five nodes.
func TestP10_2AllWordsOfFiveNodes(t *testing.T) {
	kinds := []uint32{0, 1, 2, 1 << 15}
	for n := range 1 << 10 {
		l := withWords(kinds[n&3], kinds[n>>2&3], kinds[n>>4&3], kinds[n>>6&3], kinds[n>>8&3])
		for i, x := range l {
			height := []int{1, 2, 3, api.MaxLevels}[n/4%4]
			got, count, err := Remove(l, exact(l, height), x.ID, height)
			if err != api.OK || !ideal.Same(got, exact(without(l, i), height)) || count != neighboursOf(l, x.ID, height) {
				t.Fatalf("Remove of %v from %v at the height %d is %v, %d, %d", x, l, height, got, count, err)
			}
		}
	}
}

// A node in the middle has two links at each level at which it has neighbours on both sides.
func TestP10_2Counts(t *testing.T) {
	for _, x := range []struct {
		words []uint32
		place int
		want  []int // at the levels 0, 1 and so on; at those that follow, as many as at the last one of these
	}{
		{[]uint32{7, 7, 7}, 1, []int{2}}, {[]uint32{7, 7, 7}, 0, []int{1}}, {[]uint32{7, 7, 7}, 2, []int{1}}, {[]uint32{7, 7}, 0, []int{1}},
		{[]uint32{1, 0, 3}, 1, []int{2, 0}}, {[]uint32{1, 0, 0}, 1, []int{2, 1}}, {[]uint32{0, 0, 1}, 1, []int{2, 1}}, {[]uint32{0, 1, 0, 3, 2}, 2, []int{2, 2, 1}},
		{[]uint32{2, 1, 0, 3, 0}, 2, []int{2, 2, 1}}, {[]uint32{1, 2, 3, 4}, 0, []int{1, 1, 0}}, {[]uint32{1, 2, 3, 4}, 3, []int{1, 1, 0}},
		{[]uint32{0, 1 << 15, 0}, 1, []int{2, 2, 2, 2, 2, 2, 2, 2, 2, 2, 2, 2, 2, 2, 2, 2, 0}},
	} {
		l := withWords(x.words...)
		sum := 0
		for height := range api.MaxLevels + 1 {
			sum += x.want[min(height, len(x.want)-1)]
			wantRemove(t, l, l[x.place].ID, height, exact(without(l, x.place), height), sum)
		}
	}
}

func TestP10_2OnlyNode(t *testing.T) {
	for height := range api.MaxLevels + 1 {
		for _, x := range nodes(node(7, "m", 5), node(1, "", 0), node(math.MaxInt32, greatest, 1<<16-1)) {
			wantRemove(t, nodes(x), x.ID, height, nil, 0)
		}
	}
}

func TestP10_2UnknownNumbers(t *testing.T) {
	for _, l := range rosters() {
		for _, height := range []int{0, 2, api.MaxLevels} {
			for _, id := range strangers(l) {
				wantNoRemove(t, l, exact(l, height), id, height, api.ErrUnknown)
				wantNoRemove(t, reversed(l), exact(l, height), id, height, api.ErrUnknown)
			}
		}
	}
}

// A node that was removed is not there any more.
func TestP10_2RemoveTwice(t *testing.T) {
	for _, l := range rosters()[1:] {
		x := l[len(l)/2]
		links, _, _ := Remove(l, exact(l, 3), x.ID, 3)
		wantNoRemove(t, without(l, len(l)/2), links, x.ID, 3, api.ErrUnknown)
	}
}

func TestP10_2Defects(t *testing.T) {
	for _, links := range defective(t) {
		for _, id := range []int{8, 2, 5, 1, 0, 700} {
			wantNoRemove(t, four(), links, id, 1, api.ErrInvalid)
		}
	}
}

func TestP10_2LinksThatAreNotExact(t *testing.T) {
	for _, l := range rosters() {
		for _, height := range []int{0, 2, api.MaxLevels} {
			for _, links := range inexact(l, height) {
				// 600 is the number of elements, but of no node.
				for _, id := range []int{firstID(l), 0, 600, 700} {
					wantNoRemove(t, l, links, id, height, api.ErrInvalid)
					wantNoRemove(t, reversed(l), links, id, height, api.ErrInvalid)
				}
			}
		}
	}
}

func TestP10_2NoRosters(t *testing.T) {
	for _, l := range spoilt() {
		for _, height := range []int{0, 2, api.MaxLevels} {
			for _, links := range [][]api.Linked{nil, exact(four(), height), exact(l[:len(l)-1], height)} {
				for _, id := range []int{l[0].ID, l[len(l)-1].ID, 8, 0, 700} {
					wantNoRemove(t, l, links, id, height, api.ErrInvalid)
					wantNoRemove(t, reversed(l), links, id, height, api.ErrInvalid)
				}
			}
		}
	}
}

func TestP10_2NoHeight(t *testing.T) {
	for _, height := range noLevels {
		for _, l := range append(rosters(), spoilt()...) {
			for _, links := range [][]api.Linked{nil, exact(l, 0), exact(l, api.MaxLevels)} {
				for _, id := range []int{firstID(l), 0, 700} {
					wantNoRemove(t, l, links, id, height, api.ErrRange)
				}
			}
		}
	}
}

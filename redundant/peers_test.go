package redundant

import (
	"math"
	"slices"
	"testing"

	"skipgraph/api"
)

// same reports whether two peers are equal; a nil slice is like an empty one.
func same(a, b api.Peer) bool {
	return a.ID == b.ID && a.Left == b.Left && a.Right == b.Right && slices.Equal(a.Known, b.Known) && slices.Equal(a.Near, b.Near)
}

// allSame reports whether two lists of peers are equal.
func allSame(a, b []api.Peer) bool { return slices.EqualFunc(a, b, same) }

// nearOf looks at the nodes of the list of a level through x, away from x on both sides.
func nearOf(l []api.Node, x api.Node, level int) api.Near {
	var out api.Near
	list := through(l, x, level)
	place := slices.Index(list, x)
	for i, y := range list {
		// To the left a later node is nearer, to the right an earlier one.
		switch {
		case i < place && bit(y.Word, level) == 0:
			out.Left0 = y.ID
		case i < place:
			out.Left1 = y.ID
		case i > place && bit(y.Word, level) == 0 && out.Right0 == 0:
			out.Right0 = y.ID
		case i > place && bit(y.Word, level) == 1 && out.Right1 == 0:
			out.Right1 = y.ID
		}
	}
	return out
}

// peersOf returns the peers of all nodes, each found for itself.
func peersOf(l []api.Node, width, height int) []api.Peer {
	var out []api.Peer
	all := ascending(l)
	for i, x := range all {
		p := api.Peer{ID: x.ID}
		if width >= 1 {
			p.Known = contactsOf(l, x, width, height)
		}
		if i > 0 {
			p.Left = all[i-1].ID
		}
		if i < len(all)-1 {
			p.Right = all[i+1].ID
		}
		for level := range height {
			p.Near = append(p.Near, nearOf(l, x, level))
		}
		out = append(out, p)
	}
	return out
}

// wantPeers examines Peers for the nodes in several orders.
func wantPeers(t *testing.T, l []api.Node, width, height int, want []api.Peer) {
	t.Helper()
	for _, l := range orders(l) {
		if got := Peers(l, width, height); !allSame(got, want) {
			t.Errorf("Peers(%v, %d, %d) = %v, not %v", l, width, height, got, want)
		}
	}
}

func TestP14_3Peers(t *testing.T) {
	// At level 0 the bits 0 of 8 2 5 1 7 are 0 1 0 1 0. At level 1, the bits 1 of 8 5 7 are 0 1 0, and those of 2 1 are 0 1.
	wantPeers(t, five(), 1, 2, []api.Peer{
		{ID: 8, Known: []int{2, 5, 7}, Right: 2, Near: []api.Near{{Right0: 5, Right1: 2}, {Right0: 7, Right1: 5}}},
		{ID: 2, Known: []int{8, 5, 1}, Left: 8, Right: 5, Near: []api.Near{{Left0: 8, Right0: 5, Right1: 1}, {Right1: 1}}},
		{ID: 5, Known: []int{8, 2, 1, 7}, Left: 2, Right: 1, Near: []api.Near{{Left0: 8, Left1: 2, Right0: 7, Right1: 1}, {Left0: 8, Right0: 7}}},
		{ID: 1, Known: []int{2, 5, 7}, Left: 5, Right: 7, Near: []api.Near{{Left0: 5, Left1: 2, Right0: 7}, {Left0: 2}}},
		{ID: 7, Known: []int{8, 5, 1}, Left: 1, Near: []api.Near{{Left0: 5, Left1: 1}, {Left0: 8, Left1: 5}}},
	})
}

func TestP14_3NoLevels(t *testing.T) {
	wantPeers(t, five(), 2, 0, []api.Peer{
		{ID: 8, Known: []int{2, 5}, Right: 2}, {ID: 2, Known: []int{8, 5, 1}, Left: 8, Right: 5}, {ID: 5, Known: []int{8, 2, 1, 7}, Left: 2, Right: 1},
		{ID: 1, Known: []int{2, 5, 7}, Left: 5, Right: 7}, {ID: 7, Known: []int{5, 1}, Left: 1},
	})
}

func TestP14_3NoContacts(t *testing.T) {
	for _, width := range noWidths {
		wantPeers(t, five(), width, 0, []api.Peer{
			{ID: 8, Right: 2}, {ID: 2, Left: 8, Right: 5}, {ID: 5, Left: 2, Right: 1}, {ID: 1, Left: 5, Right: 7}, {ID: 7, Left: 1},
		})
		// Near does not depend on the width.
		wantPeers(t, five()[:2], width, 2, []api.Peer{
			{ID: 8, Right: 2, Near: []api.Near{{Right1: 2}, {}}}, {ID: 2, Left: 8, Near: []api.Near{{Left0: 8}, {}}},
		})
	}
}

func TestP14_3OnlyOneBitOnASide(t *testing.T) {
	// To the left of the node in the middle all Bits are 0, to the right all are 1; only the nearest nodes count.
	l := nodes(node(4, "a", 0), node(2, "b", 0), node(5, "c", 0), node(1, "d", 1), node(3, "e", 1))
	for i, want := range []api.Near{
		{Right0: 2, Right1: 1}, {Left0: 4, Right0: 5, Right1: 1}, {Left0: 2, Right1: 1}, {Left0: 5, Right1: 3}, {Left0: 5, Left1: 1},
	} {
		if p := Peers(l, 1, 1); len(p) != 5 || !slices.Equal(p[i].Near, []api.Near{want}) {
			t.Errorf("the peers of %v are %v: the one with the index %d has not %v", l, p, i, want)
		}
	}
	// A node that is far away at level 0 is the nearest one at level 1.
	l = nodes(node(4, "a", 1), node(2, "b", 0), node(5, "c", 2), node(1, "d", 3))
	if p := Peers(l, 1, 3); len(p) != 4 || !slices.Equal(p[0].Near, []api.Near{{Right0: 2, Right1: 1}, {Right1: 1}, {}}) {
		t.Errorf("the peers of %v are %v", l, p)
	}
}

func TestP14_3AllLevels(t *testing.T) {
	// Two nodes whose words differ in one bit only are in one list up to the level of this bit.
	for i := range api.MaxLevels {
		for height := range api.MaxLevels + 1 {
			var left, right []api.Near
			for level := range height {
				switch {
				case level < i:
					left, right = append(left, api.Near{Right0: 2}), append(right, api.Near{Left0: 3})
				case level == i:
					left, right = append(left, api.Near{Right1: 2}), append(right, api.Near{Left0: 3})
				default:
					left, right = append(left, api.Near{}), append(right, api.Near{})
				}
			}
			l := nodes(node(3, "a", 0), node(2, "b", 1<<i))
			wantPeers(t, l, 1, height, []api.Peer{{ID: 3, Known: []int{2}, Right: 2, Near: left}, {ID: 2, Known: []int{3}, Left: 3, Near: right}})
		}
	}
}

func TestP14_3FewNodes(t *testing.T) {
	for height := range api.MaxLevels + 1 {
		for _, width := range append(noWidths, 1, 2, math.MaxInt) {
			wantPeers(t, nil, width, height, nil)
			wantPeers(t, nodes(), width, height, nil)
			wantPeers(t, nodes(node(7, "m", 3)), width, height, []api.Peer{{ID: 7, Near: make([]api.Near, height)}})
		}
	}
}

func TestP14_3PeersOfAllNodes(t *testing.T) {
	for _, l := range allRosters() {
		for _, width := range []int{-1, 0, 1, 3, math.MaxInt} {
			for _, height := range []int{0, 1, 4, api.MaxLevels} {
				wantPeers(t, l, width, height, peersOf(l, width, height))
			}
		}
	}
}

func TestP14_3KnownAreTheContacts(t *testing.T) {
	for _, l := range allRosters() {
		for _, p := range Peers(l, 2, 4) {
			if got := Contacts(l, p.ID, 2, 4); !slices.Equal(p.Known, got) {
				t.Errorf("the peer %v of %v has not the contacts %v", p, l, got)
			}
		}
	}
}

func TestP14_3NoPeers(t *testing.T) {
	for _, l := range allRosters() {
		for _, height := range noLevels {
			for _, width := range []int{0, 1, math.MaxInt} {
				wantPeers(t, l, width, height, nil)
			}
		}
	}
	for _, l := range noRosters() {
		for _, height := range []int{-1, 0, 1, api.MaxLevels, api.MaxLevels + 1} {
			for _, width := range []int{0, 1, math.MaxInt} {
				if got := Peers(l, width, height); len(got) > 0 {
					t.Errorf("Peers(%v, %d, %d) = %v", l, width, height, got)
				}
			}
		}
	}
}

// wantCrash examines Crash for the numbers in several orders.
func wantCrash(t *testing.T, peers []api.Peer, want []api.Peer, down ...int) {
	t.Helper()
	for _, down := range orders(down) {
		if got := Crash(peers, down); !allSame(got, want) {
			t.Errorf("Crash(%v, %v) = %v, not %v", peers, down, got, want)
		}
	}
}

func TestP14_4Crash(t *testing.T) {
	l := Peers(five(), 1, 2)
	wantCrash(t, l, []api.Peer{l[1], l[2], l[3], l[4]}, 8)
	wantCrash(t, l, []api.Peer{l[0], l[2], l[3], l[4]}, 2)
	wantCrash(t, l, []api.Peer{l[0], l[1], l[2], l[3]}, 7)
	wantCrash(t, l, []api.Peer{l[0], l[2], l[4]}, 2, 1)
	wantCrash(t, l, []api.Peer{l[2]}, 2, 1, 7, 8)
	wantCrash(t, l, nil, 2, 1, 7, 8, 5)
	wantCrash(t, l, nil, append([]int{2, 1, 7, 8, 5}, strangers...)...)
	wantCrash(t, l, []api.Peer{l[0], l[2], l[3], l[4]}, 2, 2, 2)
}

func TestP14_4NothingIsDown(t *testing.T) {
	for _, l := range allRosters() {
		peers := Peers(l, 2, 5)
		for _, peers := range orders(peers) {
			wantCrash(t, peers, peers)
			wantCrash(t, peers, peers, strangers...)
		}
	}
	for _, down := range [][]int{nil, {}, {0}, {1, 2}} {
		wantCrash(t, nil, nil, down...)
		wantCrash(t, []api.Peer{}, nil, down...)
	}
}

func TestP14_4AnyPeers(t *testing.T) {
	l := []api.Peer{
		{ID: 3, Known: []int{1, 3, 9, 1}, Near: []api.Near{{Left0: 3}}}, {}, {ID: -1, Left: 3}, {ID: 3, Right: 9}, {ID: 1<<32 + 3, Known: []int{3}}, {ID: 9, Near: make([]api.Near, 40)},
		{ID: math.MinInt}, {ID: 3}, {ID: math.MaxInt, Left: math.MinInt, Right: math.MaxInt},
	}
	// All peers with a number that is down are gone. What names such a number stays, and so does the order.
	wantCrash(t, l, []api.Peer{l[1], l[2], l[4], l[5], l[6], l[8]}, 3)
	wantCrash(t, l, []api.Peer{l[0], l[2], l[3], l[4], l[5], l[6], l[7], l[8]}, 0)
	wantCrash(t, l, []api.Peer{l[0], l[1], l[3], l[4], l[5], l[6], l[7], l[8]}, -1)
	wantCrash(t, l, []api.Peer{l[0], l[1], l[2], l[3], l[4], l[5], l[7]}, math.MinInt, math.MaxInt)
	wantCrash(t, l, []api.Peer{l[0], l[1], l[2], l[3], l[5], l[6], l[7], l[8]}, 1<<32+3)
	for _, l := range orders(l) {
		wantCrash(t, l, l, 1, 2, 4, 1<<32, -3)
	}
}

func TestP14_4CrashOfAllSets(t *testing.T) {
	for _, l := range sampleRosters() {
		peers := Peers(l, 2, 3)
		for set := range 1 << len(l) {
			var down []int
			var rest []api.Peer
			for i, p := range peers {
				if set>>i&1 == 1 {
					down = append(down, p.ID)
				} else {
					rest = append(rest, p)
				}
			}
			wantCrash(t, peers, rest, down...)
		}
	}
}

package redundant

import (
	"math"
	"slices"
	"testing"

	"skipgraph/api"
)

// peerOf returns the first peer with a number, the zero one if there is none.
func peerOf(peers []api.Peer, id int) api.Peer {
	for _, p := range peers {
		if p.ID == id {
			return p
		}
	}
	return api.Peer{}
}

// connected follows the references, in both directions, from the first node until no more nodes are found.
func connected(l []api.Node, peers []api.Peer) bool {
	if len(l) == 0 {
		return true
	}
	in := map[int]bool{l[0].ID: true}
	for more := true; more; {
		more = false
		for _, a := range l {
			for _, b := range l {
				if in[a.ID] && !in[b.ID] && (names(peerOf(peers, a.ID), b.ID) || names(peerOf(peers, b.ID), a.ID)) {
					in[b.ID] = true
					more = true
				}
			}
		}
	}
	return len(in) == len(l)
}

// wantConnected examines Connected for the nodes in several orders.
func wantConnected(t *testing.T, l []api.Node, want bool, peers ...api.Peer) {
	t.Helper()
	for _, l := range orders(l) {
		if got := Connected(l, peers); got != want {
			t.Errorf("Connected(%v, %v) = %t", l, peers, got)
		}
	}
}

// knows returns a peer that knows some numbers.
func knows(id int, known ...int) api.Peer { return api.Peer{ID: id, Known: known} }

func TestP14_6Connected(t *testing.T) {
	// In ascending order of the Keys: 8 2 5 1 7. One component: a star, chains in several directions, a tree.
	wantConnected(t, five(), true, knows(8, 2, 5, 1, 7))
	wantConnected(t, five(), true, knows(1, 2, 5, 8, 7))
	wantConnected(t, five(), true, knows(8, 2), knows(2, 5), knows(5, 1), knows(1, 7))
	wantConnected(t, five(), true, knows(7, 1), knows(2, 8), knows(1, 5), knows(5, 2))
	wantConnected(t, five(), true, knows(8, 7), knows(2, 1), knows(5, 8), knows(7, 2))
	wantConnected(t, five(), true, knows(2, 8), knows(5, 8), knows(1, 8), knows(7, 8))
	wantConnected(t, five(), true, knows(5, 8, 2), knows(7, 2, 1))
	// Two components, wherever they are.
	wantConnected(t, five(), false, knows(8, 2), knows(5, 1, 7))
	wantConnected(t, five(), false, knows(8, 5, 7), knows(2, 1), knows(7, 8, 5), knows(1, 2))
	wantConnected(t, five(), false, knows(8, 7), knows(2, 5), knows(5, 1), knows(1, 2))
	// One node is alone.
	for i, x := range five() {
		rest := slices.Delete(ids(five()), i, i+1)
		wantConnected(t, five(), false, knows(rest[0], rest[1], rest[2], rest[3]))
		wantConnected(t, five(), true, knows(rest[0], rest[1], rest[2], rest[3]), knows(x.ID, rest[2]))
		wantConnected(t, five(), true, knows(rest[0], rest[1], rest[2], rest[3], x.ID))
	}
}

func TestP14_6EachDirection(t *testing.T) {
	l := five()[1:3]
	wantConnected(t, l, true, knows(2, 5))
	wantConnected(t, l, true, knows(5, 2))
	wantConnected(t, l, true, knows(2, 5), knows(5, 2))
	wantConnected(t, l, true, knows(2), knows(5, 2))
	wantConnected(t, l, false, knows(2), knows(5))
	wantConnected(t, l, false, knows(2, 2), knows(5, 5))
}

func TestP14_6EachPlaceCounts(t *testing.T) {
	l := five()[1:3]
	for _, p := range []api.Peer{
		{Known: []int{0, 5}}, {Left: 5}, {Right: 5}, {Near: []api.Near{{Left0: 5}}}, {Near: []api.Near{{Left1: 5}}}, {Near: []api.Near{{Right0: 5}}},
		{Near: []api.Near{{}, {Right1: 5}}}, {Near: append(make([]api.Near, 40), api.Near{Left1: 5})},
	} {
		p.ID = 2
		wantConnected(t, l, true, p)
		wantConnected(t, l, true, knows(5), p)
		p.ID = 5
		wantConnected(t, l, false, p)
	}
}

func TestP14_6TheFirstPeerCounts(t *testing.T) {
	l := five()[1:3]
	wantConnected(t, l, true, knows(2, 5), knows(2))
	wantConnected(t, l, false, knows(2), knows(2, 5))
	wantConnected(t, l, false, knows(2, 6000), knows(6000, 2, 5), knows(2, 5), knows(2, 5))
	wantConnected(t, l, true, knows(2), knows(5, 2), knows(2, 5))
	wantConnected(t, five(), false, knows(8, 2, 5), knows(8, 2, 5, 1, 7))
	wantConnected(t, five(), true, knows(8, 2, 5, 1, 7), knows(8, 2, 5))
}

func TestP14_6NodesWithoutPeers(t *testing.T) {
	wantConnected(t, five(), false)
	wantConnected(t, five()[:2], false)
	// A node without a peer can be known by another one; nodes that nobody knows are alone.
	wantConnected(t, five(), true, knows(8, 7), knows(7, 5, 1), knows(5, 2))
	wantConnected(t, five(), false, knows(8, 7), knows(7, 5, 1))
}

func TestP14_6NumbersThatNoNodeHas(t *testing.T) {
	for _, id := range strangers {
		// Such a number joins nothing, whether it is known or that of a peer.
		wantConnected(t, five()[1:3], false, knows(2, id), knows(5, id), knows(id, 2, 5))
		wantConnected(t, five(), false, knows(id, 8, 2, 5, 1, 7), api.Peer{ID: 8, Left: id, Right: id, Near: []api.Near{{Left0: id, Left1: id, Right0: id, Right1: id}}})
		wantConnected(t, five()[1:3], true, knows(id, id), knows(2, id, 5))
	}
	// Neither does a node that is gone.
	wantConnected(t, nodes(five()[1], five()[3]), false, knows(2, 5), knows(5, 2, 1), knows(1, 5))
}

func TestP14_6FewNodes(t *testing.T) {
	for _, peers := range [][]api.Peer{nil, {}, {knows(7, 7)}, {knows(7, 1, 2)}, {knows(1, 7)}, {{}}, twisted(five(), 3, 0)} {
		wantConnected(t, nil, true, peers...)
		wantConnected(t, nodes(), true, peers...)
		wantConnected(t, nodes(node(7, "m", 3)), true, peers...)
		wantConnected(t, nodes(node(math.MaxInt32, "", 0)), true, peers...)
	}
}

func TestP14_6PeersOfAllNodes(t *testing.T) {
	for _, l := range allRosters() {
		for _, width := range []int{0, 1, 2, math.MaxInt} {
			for _, height := range []int{0, 3, api.MaxLevels} {
				for _, peers := range orders(Peers(l, width, height)) {
					wantConnected(t, l, true, peers...)
				}
			}
		}
	}
}

func TestP14_6LongChains(t *testing.T) {
	for _, l := range fullRosters()[:2] {
		for _, step := range []int{1, 2, 7, 31, 63} {
			var peers []api.Peer
			for i, x := range l {
				if i+step < len(l) {
					peers = append(peers, knows(x.ID, l[i+step].ID))
				}
			}
			for _, peers := range orders(peers) {
				wantConnected(t, l, step == 1, peers...)
			}
		}
	}
}

func TestP14_6ConnectedByAnyPeers(t *testing.T) {
	count := map[bool]int{}
	for _, l := range sampleRosters() {
		if len(l) < 2 {
			continue
		}
		for seed := range 60 {
			peers := twisted(l, seed*1001, seed%20*3)
			want := connected(l, peers)
			count[want]++
			wantConnected(t, l, want, peers...)
		}
	}
	if count[true] < 50 || count[false] < 50 {
		t.Errorf("only %d samples are connected, or %d are not", count[true], count[false])
	}
}

func TestP14_6NoRoster(t *testing.T) {
	for _, l := range noRosters() {
		var all []api.Peer
		for _, x := range l {
			all = append(all, knows(x.ID, ids(l)...))
		}
		for _, peers := range [][]api.Peer{nil, all} {
			if Connected(l, peers) {
				t.Errorf("Connected(%v, %v)", l, peers)
			}
		}
	}
}

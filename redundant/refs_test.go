package redundant

import (
	"math"
	"slices"
	"testing"

	"skipgraph/api"
)

// names reports whether a peer names a number anywhere.
func names(p api.Peer, id int) bool {
	for _, n := range p.Near {
		if n.Left0 == id || n.Left1 == id || n.Right0 == id || n.Right1 == id {
			return true
		}
	}
	return p.Left == id || p.Right == id || slices.Contains(p.Known, id)
}

// refsOf asks for each node whether the peer names it.
func refsOf(l []api.Node, p api.Peer) []int {
	var out []int
	for _, x := range ascending(l) {
		if x.ID != p.ID && names(p, x.ID) {
			out = append(out, x.ID)
		}
	}
	return out
}

// twisted returns peers with many wrong numbers, missing ones and some that occur several times, each a little different by its
// seed. The greater few is, the fewer numbers are those of nodes.
func twisted(l []api.Node, seed, few int) []api.Peer {
	numbers := slices.Concat(slices.Repeat(ids(l), 5), strangers)
	for range few {
		numbers = append(numbers, 0, 6000)
	}
	next := seed
	pick := func() int {
		next = (next*75 + 74) % 65537
		return numbers[next*len(numbers)/65537]
	}
	small := func() int { return max(pick(), 0) % 5 }
	out := []api.Peer{{ID: 6000, Known: ids(l)}, {Known: ids(l)}}
	for range len(l) + 2 {
		p := api.Peer{ID: pick(), Left: pick(), Right: pick()}
		for range small() {
			p.Known = append(p.Known, pick(), p.ID)
		}
		for range small() {
			p.Near = append(p.Near, api.Near{Left0: pick(), Left1: pick(), Right0: pick(), Right1: pick()})
		}
		out = append(out, p)
	}
	return out
}

// wantRefs examines Refs for the nodes in several orders.
func wantRefs(t *testing.T, l []api.Node, p api.Peer, want ...int) {
	t.Helper()
	for _, l := range orders(l) {
		if got := Refs(l, p); !slices.Equal(got, want) {
			t.Errorf("Refs(%v, %v) = %v, not %v", l, p, got, want)
		}
	}
}

func TestP14_5Refs(t *testing.T) {
	// In ascending order of the Keys: 8 2 5 1 7.
	wantRefs(t, five(), api.Peer{ID: 5, Known: []int{7, 1, 8}}, 8, 1, 7)
	wantRefs(t, five(), api.Peer{ID: 5, Left: 7}, 7)
	wantRefs(t, five(), api.Peer{ID: 5, Right: 8}, 8)
	wantRefs(t, five(), api.Peer{ID: 5, Left: 7, Right: 8}, 8, 7)
	wantRefs(t, five(), api.Peer{ID: 5, Near: []api.Near{{Left0: 7, Left1: 1, Right0: 2, Right1: 8}}}, 8, 2, 1, 7)
	wantRefs(t, five(), api.Peer{ID: 8, Known: []int{1}, Left: 2, Right: 5, Near: []api.Near{{}, {}, {Right1: 7}}}, 2, 5, 1, 7)
	wantRefs(t, five(), api.Peer{ID: 8})
}

func TestP14_5EachPlaceCounts(t *testing.T) {
	for _, id := range []int{8, 2, 5, 1} {
		for _, p := range []api.Peer{
			{Known: []int{id}}, {Known: []int{0, 6000, id}}, {Left: id}, {Right: id}, {Near: []api.Near{{Left0: id}}}, {Near: []api.Near{{Left1: id}}},
			{Near: []api.Near{{Right0: id}}}, {Near: []api.Near{{Right1: id}}}, {Near: []api.Near{{}, {Left0: id}}}, {Near: append(make([]api.Near, 40), api.Near{Right1: id})},
		} {
			p.ID = 7
			wantRefs(t, five(), p, id)
		}
	}
}

func TestP14_5EachNodeOnce(t *testing.T) {
	all := api.Near{Left0: 2, Left1: 2, Right0: 2, Right1: 2}
	wantRefs(t, five(), api.Peer{ID: 5, Known: []int{2, 2, 2}, Left: 2, Right: 2, Near: []api.Near{all, all}}, 2)
	wantRefs(t, five(), api.Peer{ID: 5, Known: []int{7, 2, 7, 2}, Left: 7, Right: 2, Near: []api.Near{all, {Left0: 7}}}, 2, 7)
}

func TestP14_5TheOwnNumber(t *testing.T) {
	own := api.Near{Left0: 2, Left1: 2, Right0: 2, Right1: 2}
	wantRefs(t, five(), api.Peer{ID: 2, Known: []int{2, 2}, Left: 2, Right: 2, Near: []api.Near{own}})
	wantRefs(t, five(), api.Peer{ID: 2, Known: []int{2, 1}, Left: 2, Right: 8, Near: []api.Near{own}}, 8, 1)
	// The numbers that no node has, as far as they are its own one, are none of a node either.
	for _, id := range strangers {
		wantRefs(t, five(), api.Peer{ID: id, Known: []int{id, 1}, Left: id, Right: 8}, 8, 1)
	}
}

func TestP14_5NumbersThatNoNodeHas(t *testing.T) {
	for _, id := range strangers {
		none := api.Near{Left0: id, Left1: id, Right0: id, Right1: id}
		wantRefs(t, five(), api.Peer{ID: 5, Known: []int{id, id}, Left: id, Right: id, Near: []api.Near{none, none}})
		wantRefs(t, five(), api.Peer{ID: 5, Known: []int{id, 1, id}, Left: id, Right: id, Near: []api.Near{none, {Left0: id, Left1: 2}}}, 2, 1)
	}
	wantRefs(t, five(), api.Peer{ID: 5, Known: strangers, Left: math.MinInt, Right: math.MaxInt})
}

func TestP14_5PeersOfNoNode(t *testing.T) {
	for _, id := range strangers {
		wantRefs(t, five(), api.Peer{ID: id, Known: []int{7, 1, 5}, Left: 2, Right: 8, Near: []api.Near{{Left0: 1}}}, ids(five())...)
	}
	// The nodes that are left do not include those of the references that are gone.
	wantRefs(t, nodes(five()[0], five()[3]), api.Peer{ID: 5, Known: []int{7, 2, 1}, Left: 2, Right: 8}, 8, 1)
}

func TestP14_5FewNodes(t *testing.T) {
	p := api.Peer{ID: 5, Known: []int{7, 2, 1}, Left: 2, Right: 8, Near: []api.Near{{Left0: 5}}}
	wantRefs(t, nil, p)
	wantRefs(t, nodes(), p)
	wantRefs(t, nodes(five()[2]), p)
	wantRefs(t, nodes(five()[1]), p, 2)
}

func TestP14_5RefsOfAllPeers(t *testing.T) {
	for _, l := range allRosters() {
		for seed := range 6 {
			for _, p := range twisted(l, seed*5001, seed*3) {
				wantRefs(t, l, p, refsOf(l, p)...)
			}
		}
		for _, p := range Peers(l, 2, 5) {
			wantRefs(t, l, p, refsOf(l, p)...)
		}
	}
}

func TestP14_5NoRoster(t *testing.T) {
	for _, l := range noRosters() {
		for _, p := range append(twisted(l, 7, 0), api.Peer{ID: 6000, Known: ids(l)}) {
			if got := Refs(l, p); len(got) > 0 {
				t.Errorf("Refs(%v, %v) = %v", l, p, got)
			}
		}
	}
}

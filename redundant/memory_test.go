package redundant

import (
	"slices"
	"testing"

	"skipgraph/api"
)

// spare are so many elements behind the end of each slice of an argument, which must stay as they are.
const spare = 3

// padded returns l with elements in its spare capacity.
func padded[T any](l []T, element T) []T {
	out := slices.Concat(l, slices.Repeat([]T{element}, spare))
	return out[:len(l)]
}

// spacious returns peers with spare capacity everywhere.
func spacious(l []api.Peer) []api.Peer {
	out := padded(l, api.Peer{ID: 99, Left: 98})
	for i := range out[:len(l)+spare] {
		p := &out[:len(l)+spare][i]
		p.Known, p.Near = padded(p.Known, 97), padded(p.Near, api.Near{Left0: 96, Right1: 95})
	}
	return out
}

// whole returns a copy of peers with all that is in their spare capacity.
func whole(l []api.Peer) []api.Peer {
	out := slices.Clone(l[:cap(l)])
	for i, p := range out {
		out[i].Known, out[i].Near = slices.Clone(p.Known[:cap(p.Known)]), slices.Clone(p.Near[:cap(p.Near)])
	}
	return out
}

// scribble overwrites peers with all that is in their spare capacity, each place with something else, and reports whether each
// place has kept that, so that no two of them are the same.
func scribble(l []api.Peer) bool {
	kept := true
	for _, last := range []bool{false, true} {
		n := 0
		for _, p := range l[:cap(l)] {
			known, near := p.Known[:cap(p.Known)], p.Near[:cap(p.Near)]
			for i := range known {
				n++
				kept = kept && (!last || known[i] == -n)
				known[i] = -n
			}
			for i := range near {
				n++
				kept = kept && (!last || near[i].Left0 == -n)
				near[i] = api.Near{Left0: -n, Left1: -n, Right0: -n, Right1: -n}
			}
		}
	}
	clear(l[:cap(l)])
	return kept
}

func TestArgumentsStayAsTheyAre(t *testing.T) {
	for _, l := range append(allRosters(), noRosters()...) {
		given, down := padded(reversed(l), node(99, "spare", 1)), padded(append(ids(l[:len(l)/2]), 0, 6000), 98)
		nodesBefore, downBefore := slices.Clone(given[:cap(given)]), slices.Clone(down[:cap(down)])
		for _, peers := range [][]api.Peer{nil, Peers(l, 2, 3), twisted(l, 5, 0), twisted(l, 9, 30)} {
			peers := spacious(peers)
			peersBefore := whole(peers)
			for _, height := range []int{-1, 0, 3, api.MaxLevels, api.MaxLevels + 1} {
				for _, width := range []int{0, 1, 2, 100} {
					Peers(given, width, height)
					for _, x := range l[:min(len(l), 3)] {
						Contacts(given, x.ID, width, height)
					}
				}
			}
			Gap(given, down)
			Crash(peers, down)
			Connected(given, peers)
			for _, p := range peers {
				Refs(given, p)
			}
			if !slices.Equal(given[:cap(given)], nodesBefore) || !slices.Equal(down[:cap(down)], downBefore) || !allSame(whole(peers), peersBefore) {
				t.Fatalf("an argument is changed: %v, not %v, or %v, not %v, or %v, not %v", given[:cap(given)], nodesBefore, down[:cap(down)], downBefore, whole(peers), peersBefore)
			}
		}
	}
}

func TestP14_1ContactsShareNoMemory(t *testing.T) {
	for _, l := range allRosters() {
		for _, x := range l {
			first, second := Contacts(l, x.ID, 2, 3), Contacts(l, x.ID, 2, 3)
			before := slices.Clone(second)
			clear(first[:cap(first)])
			if !slices.Equal(second, before) || !slices.Equal(Contacts(l, x.ID, 2, 3), before) {
				t.Fatalf("the contacts of %v in %v share memory", x, l)
			}
		}
	}
}

func TestP14_3PeersShareNoMemory(t *testing.T) {
	for _, l := range allRosters() {
		for _, height := range []int{0, 1, 5, api.MaxLevels} {
			first, second := Peers(l, 2, height), Peers(l, 2, height)
			before := whole(second)
			if !scribble(first) {
				t.Fatalf("two slices of the peers of %v share memory", l)
			}
			if !allSame(whole(second), before) || !allSame(Peers(l, 2, height), second) {
				t.Fatalf("the results of two calls with %v share memory", l)
			}
		}
	}
}

func TestP14_4PeersThatAreLeftShareNoMemory(t *testing.T) {
	for _, l := range allRosters() {
		for _, peers := range [][]api.Peer{nil, Peers(l, 2, 5), twisted(l, 5, 0), slices.Repeat(Peers(l, 1, 1), 2)} {
			given := spacious(peers)
			before := whole(given)
			for _, down := range [][]int{nil, {1, 2}, ids(l[:len(l)/2])} {
				first, second := Crash(given, down), Crash(given, down)
				kept := whole(second)
				if !scribble(first) {
					t.Fatalf("two slices of the peers that are left of %v share memory", peers)
				}
				if !allSame(whole(second), kept) || !allSame(whole(given), before) {
					t.Fatalf("the peers that are left of %v share memory with an argument or another result", peers)
				}
			}
			// What happens to the argument later does not change a result.
			first := Crash(given, nil)
			scribble(given)
			if !allSame(first, peers) {
				t.Fatalf("the peers that are left are not the same ones any more: %v, not %v", first, peers)
			}
		}
	}
}

func TestP14_5RefsShareNoMemory(t *testing.T) {
	for _, l := range allRosters() {
		for _, p := range append(Peers(l, 2, 3), twisted(l, 5, 0)...) {
			given := spacious([]api.Peer{p})
			first, second := Refs(l, given[0]), Refs(l, given[0])
			before := slices.Clone(second)
			clear(first[:cap(first)])
			if !slices.Equal(second, before) || !slices.Equal(Refs(l, given[0]), before) || !same(given[0], p) {
				t.Fatalf("the references of %v share memory", p)
			}
		}
	}
}

package redundant

import (
	"math"
	"slices"
	"testing"

	"skipgraph/api"
	"skipgraph/roster"
)

// parts returns which nodes of a set are down, and the other nodes.
func parts(l []api.Node, set int) (down []int, left []api.Node) {
	for i, x := range l {
		if set>>i&1 == 1 {
			down = append(down, x.ID)
		} else {
			left = append(left, x)
		}
	}
	return down, left
}

// nextAreKnown reports whether each of the nodes that are left knows the next one on both sides.
func nextAreKnown(left []api.Node, peers []api.Peer) bool {
	for i := range len(left) - 1 {
		a, b := left[i].ID, left[i+1].ID
		if !slices.Contains(Refs(left, peerOf(peers, a)), b) || !slices.Contains(Refs(left, peerOf(peers, b)), a) {
			return false
		}
	}
	return true
}

// The consequence of the chapter, for all sets of nodes that crash.
func TestP14_6WidthsGreaterThanGap(t *testing.T) {
	for _, l := range sampleRosters() {
		for width := 1; width <= len(l)+1; width++ {
			for _, height := range []int{0, 2, api.MaxLevels} {
				peers := Peers(l, width, height)
				for set := range 1 << len(l) {
					down, left := parts(l, set)
					rest := Crash(peers, down)
					if width > Gap(l, down) && (!nextAreKnown(left, rest) || !Connected(left, rest)) {
						t.Errorf("the nodes %v of %v crash, and the others are not Connected by %v", down, l, rest)
					}
				}
			}
		}
	}
}

// At level 0 only, a gap between two nodes that are left separates them as soon as it is not less than the width.
func TestP14_6WidthsThatAreTooSmall(t *testing.T) {
	for _, l := range sampleRosters() {
		for width := 1; width <= len(l)+1; width++ {
			peers := Peers(l, width, 0)
			for set := range 1 << len(l) {
				down, left := parts(l, set)
				want := true
				for i := range len(left) - 1 {
					want = want && slices.Index(l, left[i+1])-slices.Index(l, left[i]) <= width
				}
				wantConnected(t, left, want, Crash(peers, down)...)
			}
		}
	}
}

func TestP14_6GapsOfMaxNodes(t *testing.T) {
	for _, l := range fullRosters() {
		for _, width := range []int{1, 2, 5, 21} {
			peers := Peers(l, width, 4)
			for begin := range width + 1 {
				// Gaps that are as long as possible, with single nodes between them.
				var down []int
				for i, x := range l {
					if (i+begin)%width > 0 {
						down = append(down, x.ID)
					}
				}
				left := roster.Without(l, down)
				if gap := Gap(l, down); gap != width-1 {
					t.Fatalf("Gap(%v, %v) = %d, not %d", l, down, gap, width-1)
				}
				if rest := Crash(peers, down); !Connected(left, rest) || !nextAreKnown(left, rest) {
					t.Errorf("the nodes %v of %v crash, and the others are not Connected by %v", down, l, rest)
				}
			}
		}
	}
}

func TestP14_6Example(t *testing.T) {
	l := nodes(node(1, "a", 0), node(2, "b", 1), node(3, "c", 2), node(4, "d", 3), node(5, "e", 4))
	left := roster.Without(l, []int{2, 3})
	// At level 0, the node 1 knows only the two that crash, and so it is alone then.
	wantRefs(t, l, peerOf(Peers(l, 2, 0), 1), 2, 3)
	wantConnected(t, left, false, Crash(Peers(l, 2, 0), []int{2, 3})...)
	// Three contacts, or the list of level 1, 1 3 5, survive.
	wantConnected(t, left, true, Crash(Peers(l, 3, 0), []int{2, 3})...)
	wantConnected(t, left, true, Crash(Peers(l, 2, 1), []int{2, 3})...)
	wantConnected(t, left, true, Crash(Peers(l, math.MaxInt, 0), []int{2, 3})...)
}

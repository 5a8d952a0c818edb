package bulk

import (
	"slices"
	"strings"
	"testing"

	"skipgraph/api"
	"skipgraph/ideal"
)

// keysAround returns keys at, between, below and above those of the nodes of l.
func keysAround(l []api.Node) []string {
	out := []string{"", "\x00", "k", "z", greatest[1:], greatest}
	for i := 0; i < len(l); i += 1 + len(l)/8 {
		key := l[i].Key
		out = append(out, key)
		if len(key) < api.MaxKey {
			out = append(out, key+"\x00", key+"\xff")
		}
		if len(key) > 0 {
			out = append(out, key[:len(key)-1])
		}
	}
	slices.Sort(out)
	return slices.Compact(out)
}

// wantCut examines Cut for the nodes in several orders.
func wantCut(t *testing.T, l []api.Node, key string, height int, below, rest []api.Linked) {
	t.Helper()
	for _, l := range orders(l) {
		left, right, err := Cut(l, exact(l, height), key, height)
		if err != api.OK || !ideal.Same(left, below) || !ideal.Same(right, rest) {
			t.Fatalf("Cut of %v at %q and the height %d is %v, %v, %d, not %v, %v", l, key, height, left, right, err, below, rest)
		}
	}
}

// wantNoCut examines that Cut returns only an error.
func wantNoCut(t *testing.T, l []api.Node, links []api.Linked, key string, height int, want api.Errno) {
	t.Helper()
	if left, right, err := Cut(l, links, key, height); err != want || len(left) > 0 || len(right) > 0 {
		t.Fatalf("Cut(%v, %v, %q, %d) = %v, %v, %d, not the error %d", l, links, key, height, left, right, err, want)
	}
}

func TestP9_3Cut(t *testing.T) {
	left := linked(element(8, link(0, 2), link(0, 0), link(0, 0)), element(2, link(8, 0), link(0, 0), link(0, 0)))
	right := linked(element(5, link(0, 1), link(0, 0), link(0, 0)), element(1, link(5, 0), link(0, 0), link(0, 0)))
	// Between b and c, and at c, which is no lesser Key than itself.
	for _, key := range []string{"b\x00", "bb", "b\xff", "c"} {
		wantCut(t, four(), key, 2, left, right)
	}
	// At b, a stays alone, and the other ones keep their links to one another at all levels.
	wantCut(t, four(), "b", 2, linked(element(8, link(0, 0), link(0, 0), link(0, 0))), linked(
		element(2, link(0, 5), link(0, 1), link(0, 0)), element(5, link(2, 1), link(0, 0), link(0, 0)), element(1, link(5, 0), link(2, 0), link(0, 0)),
	))
	wantCut(t, four(), "d", 1, linked(
		element(8, link(0, 2), link(0, 5)), element(2, link(8, 5), link(0, 0)), element(5, link(2, 0), link(8, 0)),
	), linked(element(1, link(0, 0), link(0, 0))))
}

func TestP9_3BelowAndAboveAllNodes(t *testing.T) {
	for _, key := range []string{"", "A", "a"} {
		wantCut(t, four(), key, 2, nil, linksOfFour())
	}
	for _, key := range []string{"d\x00", "e", greatest} {
		wantCut(t, four(), key, 2, linksOfFour(), nil)
	}
	// No Key is above the greatest one; a node there is not less.
	l := nodes(node(4, "", 3), node(6, greatest, 3))
	wantCut(t, l, greatest, 0, linked(element(4, link(0, 0))), linked(element(6, link(0, 0))))
	wantCut(t, l, greatest[1:], 0, linked(element(4, link(0, 0))), linked(element(6, link(0, 0))))
	wantCut(t, l, "\x00", 0, linked(element(4, link(0, 0))), linked(element(6, link(0, 0))))
}

func TestP9_3Example(t *testing.T) {
	for _, l := range rosters() {
		for _, height := range heights(l) {
			wantCut(t, l, "", height, nil, exact(l, height))
		}
	}
}

func TestP9_3FewNodes(t *testing.T) {
	for height := range api.MaxLevels + 1 {
		alone := linked(element(7, make([]api.Link, height+1)...))
		for _, key := range []string{"", "m", "z", greatest} {
			wantCut(t, nil, key, height, nil, nil)
			wantCut(t, nodes(), key, height, nil, nil)
		}
		wantCut(t, nodes(node(7, "m", 3)), "m", height, nil, alone)
		wantCut(t, nodes(node(7, "m", 3)), "l", height, nil, alone)
		wantCut(t, nodes(node(7, "m", 3)), "m\x00", height, alone, nil)
	}
}

func TestP9_3LinksOfBothParts(t *testing.T) {
	for _, l := range rosters() {
		for _, height := range heights(l) {
			for _, key := range keysAround(l) {
				below, rest := divided(l, func(i int) bool { return l[i].Key < key })
				wantCut(t, l, key, height, exact(below, height), exact(rest, height))
			}
		}
	}
}

// Merge of the two results of Cut is what was cut, in both orders.
func TestP9_3MergeOfBothParts(t *testing.T) {
	for _, l := range rosters() {
		for _, height := range heights(l) {
			for _, key := range keysAround(l) {
				left, right, err := Cut(l, exact(l, height), key, height)
				below, rest := divided(l, func(i int) bool { return l[i].Key < key })
				if err != api.OK {
					t.Fatalf("Cut of %v at %q has the error %d", l, key, err)
				}
				whole, err := Merge(rest, right, below, left, height)
				back, backErr := Merge(reversed(below), left, rest, right, height)
				if err != api.OK || backErr != api.OK || !ideal.Same(whole, exact(l, height)) || !ideal.Same(back, whole) {
					t.Fatalf("Merge of what Cut of %v at %q returns is %v, %d, and in the other order %v, %d", l, key, whole, err, back, backErr)
				}
			}
		}
	}
}

func TestP9_3KeysThatAreNotValid(t *testing.T) {
	for _, key := range []string{tooLong, greatest + "\x00", strings.Repeat("\x00", api.MaxKey+1), strings.Repeat("z", 1000)} {
		for _, height := range []int{0, 2, api.MaxLevels} {
			wantNoCut(t, nil, nil, key, height, api.ErrInvalid)
			for _, l := range rosters() {
				wantNoCut(t, l, exact(l, height), key, height, api.ErrInvalid)
			}
		}
	}
	// With as many bytes as are permitted, it is valid.
	wantCut(t, four(), tooLong[1:], 2, linksOfFour(), nil)
	wantCut(t, four(), strings.Repeat("\x00", api.MaxKey), 2, nil, linksOfFour())
}

func TestP9_3LinksThatAreNotExact(t *testing.T) {
	for _, l := range rosters() {
		for _, height := range []int{0, 2, api.MaxLevels} {
			for _, links := range inexact(l, height) {
				for _, key := range []string{"", "k1002", tooLong} {
					wantNoCut(t, l, links, key, height, api.ErrInvalid)
					wantNoCut(t, reversed(l), links, key, height, api.ErrInvalid)
				}
			}
		}
	}
	for _, have := range []api.Link{link(8, 0), link(8, 3), link(8, 2), link(8, 8), link(8, 1), link(1, 5)} {
		links := exact(four(), 1)
		links[1].Levels[0] = have
		for _, key := range []string{"", "b", "c", "z"} {
			wantNoCut(t, four(), links, key, 1, api.ErrInvalid)
		}
	}
	links := exact(four(), 1)
	links[0].Levels[1].Right = 1
	wantNoCut(t, four(), links, "c", 1, api.ErrInvalid)
}

func TestP9_3NoRosters(t *testing.T) {
	for _, l := range rosters() {
		for _, height := range []int{0, 2, api.MaxLevels} {
			for _, bad := range spoilt(l) {
				for _, key := range []string{"", "b", "y", tooLong} {
					wantNoCut(t, bad, nil, key, height, api.ErrInvalid)
					wantNoCut(t, bad, exact(l, height), key, height, api.ErrInvalid)
				}
			}
		}
	}
}

func TestP9_3NoHeight(t *testing.T) {
	for _, height := range noLevels {
		for _, key := range []string{"", "b", greatest, tooLong} {
			for _, l := range rosters() {
				for _, links := range [][]api.Linked{nil, exact(l, 0), exact(l, api.MaxLevels)} {
					wantNoCut(t, l, links, key, height, api.ErrRange)
				}
				for _, bad := range spoilt(l) {
					wantNoCut(t, bad, nil, key, height, api.ErrRange)
				}
			}
		}
	}
}

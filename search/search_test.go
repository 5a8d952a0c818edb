package search

import (
	"math"
	"slices"
	"strconv"
	"strings"
	"testing"

	"skipgraph/api"
	"skipgraph/ideal"
)

var (
	longest  = strings.Repeat("k", api.MaxKey)
	tooLong  = longest + "k"
	greatest = strings.Repeat("\xff", api.MaxKey)
)

// noLevels are numbers that are no levels; the lowest 32 bits of some of them are those of levels.
var noLevels = []int{-1, -2, api.MaxLevels + 1, api.MaxLevels + 2, 32, 64, 1 << 32, 1<<32 + 1, math.MinInt32, math.MaxInt32, math.MinInt, math.MinInt + 1, math.MaxInt - 1, math.MaxInt}

// strangers are numbers that no node of the rosters below has; the lowest 32 bits of some of them are those of nodes.
var strangers = []int{0, -1, -2, -8, 6000, 1 << 31, 1<<32 + 1, 1<<32 + 8, -1 << 32, math.MinInt, math.MaxInt}

func node(id int, key string, word uint32) api.Node { return api.Node{ID: id, Key: key, Word: word} }

func nodes(l ...api.Node) []api.Node { return l }

func linked(l ...api.Linked) []api.Linked { return l }

// element returns the links of a node at the levels from 0 on.
func element(id int, levels ...api.Link) api.Linked { return api.Linked{ID: id, Levels: levels} }

// link returns a left and a right neighbour.
func link(left, right int) api.Link { return api.Link{Left: left, Right: right} }

// hops returns a list of hops.
func hops(l ...api.Hop) []api.Hop { return l }

// hop returns a hop between two nodes by a link of a level.
func hop(from, to, level int) api.Hop { return api.Hop{From: from, To: to, Level: level} }

// four are nodes at a, b, c and d with the words 00, 01, 10 and 11.
func four() []api.Node {
	return nodes(node(8, "a", 0), node(2, "b", 1), node(5, "c", 2), node(1, "d", 3))
}

// exact returns the links of the unique skip graph.
func exact(l []api.Node, height int) []api.Linked {
	out, _ := ideal.Build(l, height)
	return out
}

// withWords returns nodes with these words, whose keys ascend and whose numbers do not.
func withWords(words ...uint32) []api.Node {
	var out []api.Node
	for i, w := range words {
		out = append(out, node(i*37%101+1, "k"+strconv.Itoa(1000+i), w))
	}
	return out
}

// full returns MaxNodes nodes; the word of each is computed from its place.
func full(word func(i int) uint32) []api.Node {
	var words []uint32
	for i := range api.MaxNodes {
		words = append(words, word(i))
	}
	return withWords(words...)
}

func reversed[T any](l []T) []T {
	out := slices.Clone(l)
	slices.Reverse(out)
	return out
}

// orders returns the elements of l in several orders, the first of which is that of l.
func orders[T any](l []T) [][]T {
	out := [][]T{l, reversed(l)}
	for _, i := range []int{1, len(l) / 2} {
		if i > 0 && i < len(l) {
			turned := append(slices.Clone(l[i:]), l[:i]...)
			out = append(out, turned, reversed(turned))
		}
	}
	return out
}

// sampleRosters returns rosters of all kinds, ascending by their Keys, first the one without nodes.
func sampleRosters() [][]api.Node {
	return [][]api.Node{
		nodes(), nodes(node(1, "", 0)), nodes(node(math.MaxInt32, greatest, 1<<16-1)), nodes(node(7, longest, 5)),
		nodes(node(1, "a", 0), node(2, "b", 1), node(3, "c", 2)), nodes(node(2, "", 4), node(1, "a", 4)), four(),
		nodes(node(9, "", 1), node(4, "\x00", 3), node(5, "A", 1), node(1, "a", 2), node(2, "a\x00", 3), node(3, "aa", 0), node(8, "b", 1), node(6, greatest, 3)),
		withWords(7, 7, 7), withWords(0, 1<<15, 0, 1<<15), withWords(5, 1, 5, 3, 1, 7, 5), withWords(0, 1, 3, 7, 15, 31, 1<<15-1, 1<<16-1),
	}
}

// fullRosters returns rosters of MaxNodes nodes, whose words are all different, all equal, or of a few kinds.
func fullRosters() [][]api.Node {
	return [][]api.Node{
		full(func(i int) uint32 { return uint32(i) }), full(func(i int) uint32 { return uint32(i) << 10 }), full(func(i int) uint32 { return uint32(i) * 40503 % (1 << 16) }),
		full(func(int) uint32 { return 1<<16 - 1 }), full(func(i int) uint32 { return 6 | uint32(i%2)<<15 }), full(func(i int) uint32 { return uint32(i * i % 11) }),
	}
}

func allRosters() [][]api.Node { return append(sampleRosters(), fullRosters()...) }

// noRosters returns lists that roster.Check does not accept, some for each of its reasons.
func noRosters() [][]api.Node {
	most := full(func(i int) uint32 { return uint32(i) })
	return [][]api.Node{
		append(slices.Clone(most), node(5000, "z", 0)), append(slices.Clone(most), most...), make([]api.Node, api.MaxNodes+1),
		nodes(api.Node{}), nodes(node(0, "a", 0), node(1, "b", 0)), nodes(node(1, "a", 0), node(-1, "b", 1)), nodes(node(1, "a", 0), node(1<<31, "b", 1)),
		nodes(node(1, "a", 0), node(math.MinInt, "b", 1)), nodes(node(1, "a", 0), node(math.MaxInt, "b", 1)), append(slices.Clone(most[1:]), node(0, "z", 0)),
		nodes(node(1, tooLong, 0)), nodes(node(1, "a", 0), node(2, tooLong, 1)),
		nodes(node(1, "a", 1<<16)), nodes(node(1, "a", 0), node(2, "b", math.MaxUint32)), nodes(node(2, "b", 1<<16|1), node(1, "a", 0)),
		nodes(node(1, "a", 0), node(1, "b", 1)), nodes(node(1, "a", 0), node(2, "a", 1)), nodes(node(1, "a", 0), node(1, "a", 0)),
		nodes(node(1, "", 0), node(2, "", 1)), append(slices.Clone(most[1:]), node(most[5].ID, "z", 9)), append(slices.Clone(most[1:]), node(5000, most[5].Key, 9)),
	}
}

// ascending returns the nodes of l in the order of their Keys: the least one that is left over is the next one.
func ascending(l []api.Node) []api.Node {
	var out []api.Node
	rest := slices.Clone(l)
	for len(rest) > 0 {
		least := 0
		for i, x := range rest {
			if x.Key < rest[least].Key {
				least = i
			}
		}
		out = append(out, rest[least])
		rest = slices.Delete(rest, least, least+1)
	}
	return out
}

// keysAround returns keys below, at, between and above those of the nodes of l.
func keysAround(l []api.Node) []string {
	out := []string{"", "\x00", longest, greatest, greatest[1:]}
	for _, x := range l {
		out = append(out, x.Key)
		if len(x.Key) < api.MaxKey {
			out = append(out, x.Key+"\x00", x.Key+"\xff")
		}
		if len(x.Key) > 0 {
			out = append(out, x.Key[:len(x.Key)-1])
		}
	}
	slices.Sort(out)
	return slices.Compact(out)
}

// someOf returns at most about n elements of l, the first and the last one among them.
func someOf[T any](l []T, n int) []T {
	var out []T
	step := len(l)/n + 1
	for i, x := range l {
		if i%step == 0 || i == len(l)-1 {
			out = append(out, x)
		}
	}
	return out
}

// wantRoute examines Route for the nodes in several orders.
func wantRoute(t *testing.T, l []api.Node, links []api.Linked, from int, key string, want []api.Hop) {
	t.Helper()
	for _, l := range orders(l) {
		got, err := Route(l, links, from, key)
		if err != api.OK || !slices.Equal(got, want) {
			t.Errorf("Route(%v, %v, %d, %q) = %v, %d, not %v", l, links, from, key, got, err, want)
		}
	}
}

// search is a search from a node for a key, and its hops.
type search struct {
	from int
	key  string
	want []api.Hop
}

func TestP8_1SearchesToTheRight(t *testing.T) {
	for _, x := range []search{
		{8, "a", nil}, {8, "a\x00", nil}, {8, "ab", nil}, {8, "b", hops(hop(8, 2, 0))}, {8, "bb", hops(hop(8, 2, 0))}, {8, "c", hops(hop(8, 5, 1))}, {8, "cc", hops(hop(8, 5, 1))},
		{8, "d", hops(hop(8, 5, 1), hop(5, 1, 0))}, {8, "z", hops(hop(8, 5, 1), hop(5, 1, 0))}, {8, greatest, hops(hop(8, 5, 1), hop(5, 1, 0))},
		{2, "b", nil}, {2, "bb", nil}, {2, "c", hops(hop(2, 5, 0))}, {2, "c\xff", hops(hop(2, 5, 0))}, {2, "d", hops(hop(2, 1, 1))}, {2, "d\x00", hops(hop(2, 1, 1))},
		{5, "c", nil}, {5, "cc", nil}, {5, "d", hops(hop(5, 1, 0))}, {5, "z", hops(hop(5, 1, 0))}, {1, "d", nil}, {1, "z", nil}, {1, greatest, nil},
	} {
		for _, height := range []int{2, 3, api.MaxLevels} {
			wantRoute(t, four(), exact(four(), height), x.from, x.key, x.want)
		}
	}
}

func TestP8_1SearchesToTheLeft(t *testing.T) {
	for _, x := range []search{
		// With one more hop at the end, and without it.
		{1, "cc", hops(hop(1, 5, 0))}, {1, "c", hops(hop(1, 5, 0))}, {1, "bb", hops(hop(1, 5, 0), hop(5, 2, 0))}, {1, "b", hops(hop(1, 5, 0), hop(5, 2, 0))},
		{1, "ab", hops(hop(1, 2, 1), hop(2, 8, 0))}, {1, "a", hops(hop(1, 2, 1), hop(2, 8, 0))}, {1, "A", hops(hop(1, 2, 1), hop(2, 8, 0))}, {1, "", hops(hop(1, 2, 1), hop(2, 8, 0))},
		{5, "bb", hops(hop(5, 2, 0))}, {5, "b", hops(hop(5, 2, 0))}, {5, "ab", hops(hop(5, 2, 0), hop(2, 8, 0))}, {5, "a", hops(hop(5, 2, 0), hop(2, 8, 0))},
		{5, "A", hops(hop(5, 8, 1))}, {5, "", hops(hop(5, 8, 1))},
		{2, "ab", hops(hop(2, 8, 0))}, {2, "a", hops(hop(2, 8, 0))}, {2, "A", hops(hop(2, 8, 0))}, {2, "", hops(hop(2, 8, 0))}, {8, "A", nil}, {8, "", nil},
	} {
		for _, height := range []int{2, 3, api.MaxLevels} {
			wantRoute(t, four(), exact(four(), height), x.from, x.key, x.want)
		}
	}
}

// With the links of level 0 only, a search visits all nodes between the first one and the key.
func TestP8_1LinksOfHeight0(t *testing.T) {
	for _, x := range []search{
		{8, "a", nil}, {8, "d", hops(hop(8, 2, 0), hop(2, 5, 0), hop(5, 1, 0))}, {8, "cc", hops(hop(8, 2, 0), hop(2, 5, 0))}, {2, "z", hops(hop(2, 5, 0), hop(5, 1, 0))}, {8, "", nil},
		{1, "d", nil}, {1, "a", hops(hop(1, 5, 0), hop(5, 2, 0), hop(2, 8, 0))}, {1, "", hops(hop(1, 5, 0), hop(5, 2, 0), hop(2, 8, 0))}, {1, "bb", hops(hop(1, 5, 0), hop(5, 2, 0))}, {5, "ab", hops(hop(5, 2, 0), hop(2, 8, 0))},
	} {
		wantRoute(t, four(), exact(four(), 0), x.from, x.key, x.want)
	}
}

func TestP8_1TheEmptyKey(t *testing.T) {
	// The empty key belongs to the first node, whether that is its Key or not.
	l := nodes(node(4, "", 1), node(9, "m", 0), node(6, "t", 1))
	links := exact(l, 1)
	wantRoute(t, l, links, 4, "", nil)
	wantRoute(t, l, links, 9, "", hops(hop(9, 4, 0)))
	wantRoute(t, l, links, 6, "", hops(hop(6, 9, 0), hop(9, 4, 0)))
	wantRoute(t, l, links, 4, "\x00", nil)
	wantRoute(t, l, links, 6, "\x00", hops(hop(6, 9, 0), hop(9, 4, 0)))
	l[0].Key = "\x00"
	wantRoute(t, l, links, 4, "", nil)
	wantRoute(t, l, links, 9, "", hops(hop(9, 4, 0)))
	wantRoute(t, l, links, 6, "", hops(hop(6, 4, 1)))
}

func TestP8_1OneNode(t *testing.T) {
	for _, l := range sampleRosters()[1:4] {
		x := l[0]
		for _, links := range [][]api.Linked{nil, exact(l, 0), exact(l, api.MaxLevels), linked(element(x.ID, link(x.ID, x.ID), link(x.ID, x.ID))), linked(element(x.ID, link(5000, -1)))} {
			for _, key := range keysAround(l) {
				wantRoute(t, l, links, x.ID, key, nil)
			}
		}
	}
}

func TestP8_1MaxNodes(t *testing.T) {
	// All words are equal: at the greatest level there are all nodes, and a search to the left hops at level 0 at the end.
	l := full(func(int) uint32 { return 9 })
	var right, left []api.Hop
	for i := range len(l) - 1 {
		right = append(right, hop(l[i].ID, l[i+1].ID, api.MaxLevels))
		left = append(left, hop(l[len(l)-1-i].ID, l[len(l)-2-i].ID, api.MaxLevels))
	}
	wantRoute(t, l, exact(l, api.MaxLevels), l[0].ID, "z", right)
	wantRoute(t, l, exact(l, api.MaxLevels), l[len(l)-1].ID, "a", left)
	left[len(left)-1].Level = 0
	wantRoute(t, l, exact(l, api.MaxLevels), l[len(l)-1].ID, l[0].Key, left)
	// The lists are halved at each level: so there is one hop for each bit.
	l = full(func(i int) uint32 { return uint32(i) })
	links := exact(l, ideal.Height(l))
	wantRoute(t, l, links, l[0].ID, l[63].Key, hops(
		hop(l[0].ID, l[32].ID, 5), hop(l[32].ID, l[48].ID, 4), hop(l[48].ID, l[56].ID, 3), hop(l[56].ID, l[60].ID, 2), hop(l[60].ID, l[62].ID, 1), hop(l[62].ID, l[63].ID, 0),
	))
	wantRoute(t, l, links, l[63].ID, l[10].Key, hops(
		hop(l[63].ID, l[31].ID, 5), hop(l[31].ID, l[15].ID, 4), hop(l[15].ID, l[11].ID, 2), hop(l[11].ID, l[10].ID, 0),
	))
}

func TestP8_1Example(t *testing.T) {
	l := nodes(node(1, "a", 0), node(2, "b", 1), node(3, "c", 2), node(4, "d", 3))
	wantRoute(t, l, exact(l, 2), 1, "d", hops(hop(1, 3, 1), hop(3, 4, 0)))
	l = nodes(node(1, "a", 1<<15), node(2, "b", 1<<9|1), node(3, "c", 2), node(4, "d", 1<<12|3))
	wantRoute(t, l, exact(l, ideal.Height(l)), 1, "d", hops(hop(1, 3, 1), hop(3, 4, 0)))
}

// wantError examines that Route returns only an error.
func wantError(t *testing.T, l []api.Node, links []api.Linked, from int, key string, want api.Errno) {
	t.Helper()
	if got, err := Route(l, links, from, key); err != want || len(got) > 0 {
		t.Errorf("Route(%v, %v, %d, %q) = %v, %d, not the error %d", l, links, from, key, got, err, want)
	}
}

func TestP8_1Errors(t *testing.T) {
	for _, l := range noRosters() {
		links := linked(element(1, link(2, 2)), element(2, link(1, 1)), element(l[0].ID, link(l[len(l)-1].ID, l[len(l)-1].ID)))
		for _, links := range [][]api.Linked{nil, links} {
			// That the key is not valid and that there is no such node does not matter then.
			for _, from := range []int{1, 2, l[0].ID, l[len(l)-1].ID, 7777, math.MinInt} {
				for _, key := range []string{"", "a", "b", tooLong} {
					wantError(t, l, links, from, key, api.ErrInvalid)
				}
			}
		}
	}
	for _, l := range allRosters() {
		links := append(exact(l, 2), element(0, link(1, 1)), element(6000, link(1, 1)))
		for _, key := range []string{tooLong, strings.Repeat("\x00", api.MaxKey+1), strings.Repeat("z", 1000)} {
			// There need not be a node with the number, if the key is not valid.
			for _, from := range append([]int{1, 2}, strangers...) {
				wantError(t, l, links, from, key, api.ErrInvalid)
			}
			for _, x := range l {
				wantError(t, l, links, x.ID, key, api.ErrInvalid)
			}
		}
		for _, from := range strangers {
			for _, key := range []string{"", "a", longest, greatest} {
				wantError(t, l, links, from, key, api.ErrUnknown)
				wantError(t, l, nil, from, key, api.ErrUnknown)
			}
		}
	}
	for _, from := range []int{0, 1, 2, -1, math.MinInt, math.MaxInt} {
		wantError(t, nil, exact(four(), 2), from, "a", api.ErrUnknown)
	}
}

func TestP8_2End(t *testing.T) {
	for _, from := range []int{0, 1, 7, -7, math.MinInt, math.MaxInt} {
		if End(from, nil) != from || End(from, hops()) != from {
			t.Errorf("without hops, the end from %d is %d", from, End(from, nil))
		}
		// Any hops are permitted.
		for _, to := range []int{0, 3, from, -1, math.MinInt, math.MaxInt} {
			for _, l := range [][]api.Hop{hops(hop(from, to, 0)), hops(hop(to, 5, 2), hop(5, 9, -1), hop(4, to, 1)), append(make([]api.Hop, 5000), hop(9, to, 77))} {
				if got := End(from, l); got != to {
					t.Errorf("End(%d, %v) = %d, not %d", from, l, got, to)
				}
			}
		}
	}
}

func TestP8_2EndOfSearches(t *testing.T) {
	for _, x := range []struct {
		from int
		key  string
		want int
	}{{8, "d", 1}, {8, "ab", 8}, {1, "", 8}, {1, "bb", 2}, {2, "cc", 5}} {
		l, err := Route(four(), exact(four(), 2), x.from, x.key)
		if got := End(x.from, l); got != x.want || err != api.OK {
			t.Errorf("the search from %d for %q ends at %d, not at %d", x.from, x.key, got, x.want)
		}
	}
}

package bulk

import (
	"math"
	"slices"
	"strconv"
	"strings"
	"testing"

	"skipgraph/api"
	"skipgraph/ideal"
	"skipgraph/roster"
)

var (
	tooLong  = strings.Repeat("k", api.MaxKey+1)
	greatest = strings.Repeat("\xff", api.MaxKey)
)

// noLevels are numbers that are no levels; the lowest 32 bits of some of them are those of levels.
var noLevels = []int{-1, api.MaxLevels + 1, 1 << 32, 1<<32 + 1, math.MinInt32, math.MaxInt32, math.MinInt, math.MaxInt}

// words are rules for the words of nodes, by their places.
var words = []func(i int) uint32{
	// All are different: in the lowest bits, in the highest ones behind lower ones that they share, and in no simple way.
	func(i int) uint32 { return uint32(i) }, func(i int) uint32 { return uint32(i)<<10 | 5 }, func(i int) uint32 { return uint32(i) * 40503 % (1 << 16) },
	// All are equal, or differ only in their highest bit, or are of a few kinds.
	func(int) uint32 { return 1<<16 - 1 }, func(i int) uint32 { return 6 | uint32(i%2)<<15 }, func(i int) uint32 { return uint32(i * i % 11) },
}

func node(id int, key string, word uint32) api.Node { return api.Node{ID: id, Key: key, Word: word} }

func nodes(l ...api.Node) []api.Node { return l }

func linked(l ...api.Linked) []api.Linked { return l }

// element returns the links of a node at the levels from 0 on.
func element(id int, levels ...api.Link) api.Linked { return api.Linked{ID: id, Levels: levels} }

func link(left, right int) api.Link { return api.Link{Left: left, Right: right} }

// four are nodes at a, b, c and d with the words 00, 01, 10 and 11.
func four() []api.Node {
	return nodes(node(8, "a", 0), node(2, "b", 1), node(5, "c", 2), node(1, "d", 3))
}

// linksOfFour are the links of these nodes at the levels 0, 1 and 2.
func linksOfFour() []api.Linked {
	return linked(
		element(8, link(0, 2), link(0, 5), link(0, 0)), element(2, link(8, 5), link(0, 1), link(0, 0)),
		element(5, link(2, 1), link(8, 0), link(0, 0)), element(1, link(5, 0), link(2, 0), link(0, 0)),
	)
}

// withWords returns n nodes, whose Keys ascend and whose numbers do not.
func withWords(n int, word func(i int) uint32) []api.Node {
	var out []api.Node
	for i := range n {
		out = append(out, node(i*37%101+1, "k"+strconv.Itoa(1000+i), word(i)))
	}
	return out
}

// rosters returns rosters in the order of their Keys, first the one without nodes.
func rosters() [][]api.Node {
	out := [][]api.Node{
		nil, nodes(node(1, "", 0)), nodes(node(math.MaxInt32, greatest, 1<<16-1)), nodes(node(2, "", 4), node(1, "a", 4)), four(),
		nodes(node(9, "", 1), node(4, "\x00", 3), node(5, "A", 1), node(1, "a", 2), node(2, "a\x00", 3), node(3, "aa", 0), node(8, "b", 1), node(6, greatest, 3)),
	}
	for _, word := range words {
		for _, n := range []int{1, 3, 5, api.MaxNodes} {
			out = append(out, withWords(n, word))
		}
	}
	return out
}

// heights returns levels, the least and the greatest one and those around the Height of l among them.
func heights(l []api.Node) []int {
	h := ideal.Height(l)
	out := []int{0, 1, max(h-1, 0), h, min(h+1, api.MaxLevels), api.MaxLevels}
	slices.Sort(out)
	return slices.Compact(out)
}

// spoilt returns lists that differ from l in one node more, and that are no rosters for this reason.
func spoilt(l []api.Node) [][]api.Node {
	var out [][]api.Node
	for _, x := range nodes(
		api.Node{}, node(0, "y", 0), node(-1, "y", 0), node(1<<31, "y", 0), node(1<<32+500, "y", 0), node(math.MinInt, "y", 0), node(math.MaxInt, "y", 0),
		node(500, tooLong, 0), node(500, "y", 1<<16), node(500, "y", math.MaxUint32),
	) {
		out = append(out, append(slices.Clone(l), x), append(nodes(x), l...))
	}
	if len(l) > 0 {
		x := l[len(l)/2]
		out = append(out, append(slices.Clone(l), x), append(slices.Clone(l), node(x.ID, "y", 0)), append(slices.Clone(l), node(500, x.Key, 0)))
	}
	for i := 0; len(l) <= api.MaxNodes; i++ {
		l = append(slices.Clone(l), node(500+i, "y"+strconv.Itoa(1000+i), 0))
	}
	return append(out, l)
}

func reversed[T any](l []T) []T {
	out := slices.Clone(l)
	slices.Reverse(out)
	return out
}

// orders returns the nodes of l in several orders, the first of which is that of l.
func orders(l []api.Node) [][]api.Node {
	half := len(l) / 2
	turned := slices.Concat(l[half:], l[:half])
	return [][]api.Node{l, reversed(l), turned, reversed(turned)}
}

// exact returns the links of the unique skip graph.
func exact(l []api.Node, height int) []api.Linked {
	out, _ := ideal.Build(l, height)
	return out
}

// countOf returns how many links are not 0.
func countOf(l []api.Linked) int {
	count := 0
	for _, x := range l {
		for _, link := range x.Levels {
			for _, to := range []int{link.Left, link.Right} {
				if to != 0 {
					count++
				}
			}
		}
	}
	return count
}

func wantLoad(t *testing.T, l []api.Node, height int, want []api.Linked, count int) {
	t.Helper()
	if got, n, err := Load(l, height); err != api.OK || n != count || !ideal.Same(got, want) {
		t.Errorf("Load(%v, %d) = %v, %d, %d, not %v, %d", l, height, got, n, err, want, count)
	}
}

func wantNoLoad(t *testing.T, l []api.Node, height int, want api.Errno) {
	t.Helper()
	if got, n, err := Load(l, height); err != want || n != 0 || len(got) > 0 {
		t.Errorf("Load(%v, %d) = %v, %d, %d, not the error %d", l, height, got, n, err, want)
	}
}

func TestP9_1Load(t *testing.T) {
	wantLoad(t, four(), 2, linksOfFour(), 10)
	wantLoad(t, four(), 0, linked(element(8, link(0, 2)), element(2, link(8, 5)), element(5, link(2, 1)), element(1, link(5, 0))), 6)
	wantLoad(t, nodes(node(1, "a", 0), node(2, "b", 1), node(3, "c", 0)), 1, linked(
		element(1, link(0, 2), link(0, 3)), element(2, link(1, 3), link(0, 0)), element(3, link(2, 0), link(1, 0)),
	), 6)
}

func TestP9_1LinksOfAllNodes(t *testing.T) {
	for _, l := range rosters() {
		for height := range api.MaxLevels + 1 {
			want := exact(l, height)
			wantLoad(t, l, height, want, countOf(want))
			if n := countOf(want); n > 2*len(l)*(height+1) {
				t.Errorf("there are %d links of %v at the levels to %d", n, l, height)
			}
		}
	}
}

func TestP9_1WordsThatShareTheirLowestBits(t *testing.T) {
	for i := range api.MaxLevels {
		// Up to the level i, there is one list; behind it, there are two.
		l := nodes(node(3, "a", 9), node(2, "b", 9^1<<i), node(7, "c", 9))
		for height := range api.MaxLevels + 1 {
			wantLoad(t, l, height, exact(l, height), 4*(min(i, height)+1)+2*max(height-i, 0))
		}
	}
}

// A list of n nodes has 2 * (n - 1) links.
func TestP9_1Counts(t *testing.T) {
	equal, different := withWords(api.MaxNodes, words[3]), withWords(api.MaxNodes, words[0])
	count := 0
	for height := range api.MaxLevels + 1 {
		wantLoad(t, equal, height, exact(equal, height), 2*(api.MaxNodes-1)*(height+1))
		// The nodes are equally divided among 2^height lists, as long as there are so many of them.
		count += 2 * (api.MaxNodes - min(1<<height, api.MaxNodes))
		wantLoad(t, different, height, exact(different, height), count)
	}
}

func TestP9_1FewNodes(t *testing.T) {
	for height := range api.MaxLevels + 1 {
		wantLoad(t, nil, height, nil, 0)
		wantLoad(t, nodes(), height, nil, 0)
		for _, x := range nodes(node(1, "", 0), node(math.MaxInt32, greatest, 1<<16-1)) {
			wantLoad(t, nodes(x), height, linked(element(x.ID, make([]api.Link, height+1)...)), 0)
		}
	}
}

func TestP9_1Order(t *testing.T) {
	for _, height := range []int{0, 1, api.MaxLevels} {
		// Keys are compared bytewise, whatever the order of the numbers and of the words is.
		for _, keys := range [][]string{{"b", "a"}, {"a", ""}, {"a\x00", "a"}, {"aa", "a"}, {"a", "B"}, {"\xff", "\x00"}, {"b", "aaaa"}, {greatest, greatest[1:]}} {
			wantNoLoad(t, nodes(node(1, keys[0], 0), node(2, keys[1], 1)), height, api.ErrOrder)
			wantNoLoad(t, nodes(node(2, keys[0], 1), node(1, keys[1], 0)), height, api.ErrOrder)
			l := nodes(node(2, keys[1], 1), node(1, keys[0], 0))
			wantLoad(t, l, height, exact(l, height), countOf(exact(l, height)))
		}
		for _, l := range rosters() {
			for i := 1; i < len(l); i++ {
				turned := slices.Clone(l)
				turned[i-1], turned[i] = l[i], l[i-1]
				wantNoLoad(t, turned, height, api.ErrOrder)
				wantNoLoad(t, slices.Concat(l[i:], l[:i]), height, api.ErrOrder)
			}
		}
	}
}

func TestP9_1Errors(t *testing.T) {
	for _, l := range rosters() {
		for _, bad := range spoilt(l) {
			if roster.Check(bad) == api.OK {
				t.Fatalf("%v is a roster", bad)
			}
			// That such nodes are not in order does not matter.
			for _, bad := range [][]api.Node{bad, reversed(bad)} {
				for _, height := range []int{0, 1, api.MaxLevels} {
					wantNoLoad(t, bad, height, api.ErrInvalid)
				}
			}
		}
		for _, height := range noLevels {
			for _, l := range append(orders(l), spoilt(l)...) {
				wantNoLoad(t, l, height, api.ErrRange)
			}
		}
	}
}

package inspect

import (
	"math"
	"slices"
	"strconv"
	"strings"
	"testing"

	"skipgraph/api"
	"skipgraph/ideal"
)

var (
	longest  = strings.Repeat("k", api.MaxKey)
	tooLong  = longest + "k"
	greatest = strings.Repeat("\xff", api.MaxKey)
)

// noLevels are numbers that are no levels; the lowest 32 bits of some of them are those of levels.
var noLevels = []int{-1, -2, api.MaxLevels + 1, api.MaxLevels + 2, 32, 64, 1 << 32, 1<<32 + 1, math.MinInt32, math.MaxInt32, math.MinInt, math.MinInt + 1, math.MaxInt - 1, math.MaxInt}

// strangers are numbers that no node of the rosters below has; the lowest 32 bits of some of them are those of nodes.
var strangers = []int{-1, -2, 6000, 1 << 31, 1<<32 + 1, 1<<32 + 8, -1 << 32, math.MinInt, math.MaxInt}

func node(id int, key string, word uint32) api.Node { return api.Node{ID: id, Key: key, Word: word} }

func nodes(l ...api.Node) []api.Node { return l }

func linked(l ...api.Linked) []api.Linked { return l }

// element returns the links of a node at the levels from 0 on.
func element(id int, levels ...api.Link) api.Linked { return api.Linked{ID: id, Levels: levels} }

// link returns a left and a right neighbour.
func link(left, right int) api.Link { return api.Link{Left: left, Right: right} }

// four are nodes at a, b, c and d with the words 00, 01, 10 and 11.
func four() []api.Node {
	return nodes(node(8, "a", 0), node(2, "b", 1), node(5, "c", 2), node(1, "d", 3))
}

// exact returns the links of the unique skip graph.
func exact(l []api.Node, height int) []api.Linked {
	out, _ := ideal.Build(l, height)
	return out
}

// withWords returns nodes with these words, whose keys ascend and whose numbers do not.
func withWords(words ...uint32) []api.Node {
	var out []api.Node
	for i, w := range words {
		out = append(out, node(i*37%101+1, "k"+strconv.Itoa(1000+i), w))
	}
	return out
}

// full returns MaxNodes nodes; the word of each is computed from its place.
func full(word func(i int) uint32) []api.Node {
	var words []uint32
	for i := range api.MaxNodes {
		words = append(words, word(i))
	}
	return withWords(words...)
}

func reversed[T any](l []T) []T {
	out := slices.Clone(l)
	slices.Reverse(out)
	return out
}

// orders returns the elements of l in several orders, the first of which is that of l.
func orders[T any](l []T) [][]T {
	out := [][]T{l, reversed(l)}
	for _, i := range []int{1, len(l) / 2} {
		if i > 0 && i < len(l) {
			turned := append(slices.Clone(l[i:]), l[:i]...)
			out = append(out, turned, reversed(turned))
		}
	}
	return out
}

// sampleRosters returns rosters of all kinds, ascending by their Keys, first the one without nodes.
func sampleRosters() [][]api.Node {
	return [][]api.Node{
		nodes(), nodes(node(1, "", 0)), nodes(node(math.MaxInt32, greatest, 1<<16-1)), nodes(node(7, longest, 5)),
		nodes(node(1, "a", 0), node(2, "b", 1), node(3, "c", 2)), nodes(node(2, "", 4), node(1, "a", 4)), four(),
		nodes(node(9, "", 1), node(4, "\x00", 3), node(5, "A", 1), node(1, "a", 2), node(2, "a\x00", 3), node(3, "aa", 0), node(8, "b", 1), node(6, greatest, 3)),
		withWords(7, 7, 7), withWords(0, 1<<15, 0, 1<<15), withWords(5, 1, 5, 3, 1, 7, 5), withWords(0, 1, 3, 7, 15, 31, 1<<15-1, 1<<16-1),
	}
}

// fullRosters returns rosters of MaxNodes nodes, whose words are all different, all equal, or of a few kinds.
func fullRosters() [][]api.Node {
	return [][]api.Node{
		full(func(i int) uint32 { return uint32(i) }), full(func(i int) uint32 { return uint32(i) << 10 }), full(func(i int) uint32 { return uint32(i) * 40503 % (1 << 16) }),
		full(func(int) uint32 { return 1<<16 - 1 }), full(func(i int) uint32 { return 6 | uint32(i%2)<<15 }), full(func(i int) uint32 { return uint32(i * i % 11) }),
	}
}

func allRosters() [][]api.Node { return append(sampleRosters(), fullRosters()...) }

// noRosters returns lists that roster.Check does not accept, some for each of its reasons.
func noRosters() [][]api.Node {
	most := full(func(i int) uint32 { return uint32(i) })
	return [][]api.Node{
		append(slices.Clone(most), node(5000, "z", 0)), append(slices.Clone(most), most...), make([]api.Node, api.MaxNodes+1),
		nodes(api.Node{}), nodes(node(0, "a", 0), node(1, "b", 0)), nodes(node(1, "a", 0), node(-1, "b", 1)), nodes(node(1, "a", 0), node(1<<31, "b", 1)),
		nodes(node(1, "a", 0), node(math.MinInt, "b", 1)), nodes(node(1, "a", 0), node(math.MaxInt, "b", 1)), append(slices.Clone(most[1:]), node(0, "z", 0)),
		nodes(node(1, tooLong, 0)), nodes(node(1, "a", 0), node(2, tooLong, 1)),
		nodes(node(1, "a", 1<<16)), nodes(node(1, "a", 0), node(2, "b", math.MaxUint32)), nodes(node(2, "b", 1<<16|1), node(1, "a", 0)),
		nodes(node(1, "a", 0), node(1, "b", 1)), nodes(node(1, "a", 0), node(2, "a", 1)), nodes(node(1, "a", 0), node(1, "a", 0)),
		nodes(node(1, "", 0), node(2, "", 1)), append(slices.Clone(most[1:]), node(most[5].ID, "z", 9)), append(slices.Clone(most[1:]), node(5000, most[5].Key, 9)),
	}
}

// noRosterLinks returns links for a list that is no roster: none, and some that join all its nodes at all levels.
func noRosterLinks(l []api.Node) [][]api.Linked {
	var joined []api.Linked
	for _, x := range l {
		levels := make([]api.Link, api.MaxLevels+1)
		for level := range levels {
			levels[level] = link(l[0].ID, l[len(l)-1].ID)
		}
		joined = append(joined, element(x.ID, levels...))
	}
	return [][]api.Linked{nil, joined}
}

func cloned(l []api.Linked) []api.Linked {
	var out []api.Linked
	for _, x := range l {
		out = append(out, element(x.ID, slices.Clone(x.Levels)...))
	}
	return out
}

// without returns links without those of an element.
func without(l []api.Linked, place int) []api.Linked {
	return append(cloned(l)[:place], cloned(l)[place+1:]...)
}

// twisted returns links of the nodes of l that are wrong in many ways, each a little different by its seed.
func twisted(l []api.Node, seed int) []api.Linked {
	numbers := append([]int{0, 0, 0}, strangers...)
	for _, x := range l {
		numbers = append(numbers, x.ID, x.ID)
	}
	next := seed
	pick := func(n int) int {
		next = (next*75 + 74) % 65537
		return next * n / 65537
	}
	out := linked(element(6000, link(1, 2)), element(0, link(2, 1)))
	for range len(l) + 2 {
		var levels []api.Link
		for range pick(api.MaxLevels + 4) {
			levels = append(levels, link(numbers[pick(len(numbers))], numbers[pick(len(numbers))]))
		}
		out = append(out, element(numbers[pick(len(numbers))], levels...))
	}
	return out
}

// sparse returns links of the nodes of l with few numbers, so that not all nodes are joined.
func sparse(l []api.Node, seed int) []api.Linked {
	out := twisted(l, seed)
	for i, x := range out {
		for level := range x.Levels {
			if (seed+i*7+level*3)%5 > 0 {
				x.Levels[level].Left = 0
			}
			if (seed+i*5+level*11)%6 > 0 {
				x.Levels[level].Right = -1
			}
		}
	}
	return out
}

// sampleLinks returns links of the nodes of a roster of all kinds: exact ones, exact ones that are changed, and wrong ones.
func sampleLinks(l []api.Node) [][]api.Linked {
	out := [][]api.Linked{nil, linked(), exact(l, 0), exact(l, 3), exact(l, api.MaxLevels), reversed(exact(l, 2))}
	for i, x := range l {
		if i > 7 {
			break
		}
		doubled := append(linked(element(x.ID)), exact(l, 2)...)
		longer := exact(l, api.MaxLevels)
		longer[i].Levels = append(longer[i].Levels, link(x.ID, l[0].ID), link(l[0].ID, x.ID))
		shorter := exact(l, api.MaxLevels)
		shorter[i].Levels = shorter[i].Levels[:2*i]
		out = append(out, without(exact(l, api.MaxLevels), i), doubled, longer, shorter)
	}
	for seed := range 12 {
		out = append(out, twisted(l, seed*5001), sparse(l, seed*4001))
	}
	return out
}

// ascending returns the nodes of l in the order of their Keys: the least one that is left over is the next one.
func ascending(l []api.Node) []api.Node {
	var out []api.Node
	rest := slices.Clone(l)
	for len(rest) > 0 {
		least := 0
		for i, x := range rest {
			if x.Key < rest[least].Key {
				least = i
			}
		}
		out = append(out, rest[least])
		rest = slices.Delete(rest, least, least+1)
	}
	return out
}

// linkOf returns the link of a node at a level, as l has it.
func linkOf(l []api.Linked, id, level int) api.Link {
	for _, x := range l {
		if x.ID == id {
			if level < len(x.Levels) {
				return x.Levels[level]
			}
			return api.Link{}
		}
	}
	return api.Link{}
}

// wantNormal examines Normal for the nodes in several orders.
func wantNormal(t *testing.T, l []api.Node, links []api.Linked, height int, want []api.Linked) {
	t.Helper()
	for _, l := range orders(l) {
		got := Normal(l, links, height)
		if len(got) != len(want) {
			t.Fatalf("Normal(%v, %v, %d) = %v, not %v", l, links, height, got, want)
		}
		for i, x := range want {
			if got[i].ID != x.ID || !slices.Equal(got[i].Levels, x.Levels) {
				t.Errorf("Normal(%v, %v, %d) = %v, not %v", l, links, height, got, want)
			}
		}
	}
}

func TestP7_1Normal(t *testing.T) {
	links := linked(
		element(5, link(2, 1), link(7, 0)), element(77, link(8, 8)), element(1, link(-5, math.MaxInt)), element(5, link(1, 1), link(1, 1)), element(8, link(0, 2), link(0, 5), link(3, 3)),
	)
	wantNormal(t, four(), links, 1, linked(
		element(8, link(0, 2), link(0, 5)), element(2, link(0, 0), link(0, 0)), element(5, link(2, 1), link(7, 0)), element(1, link(-5, math.MaxInt), link(0, 0)),
	))
	wantNormal(t, four(), links, 0, linked(element(8, link(0, 2)), element(2, link(0, 0)), element(5, link(2, 1)), element(1, link(-5, math.MaxInt))))
}

func TestP7_1ExactLinksAreNormal(t *testing.T) {
	for _, l := range allRosters() {
		for _, height := range []int{0, 1, 5, api.MaxLevels} {
			for _, links := range orders(exact(l, height)) {
				wantNormal(t, l, links, height, exact(l, height))
				wantNormal(t, l, exact(l, api.MaxLevels), height, exact(l, height))
			}
		}
	}
}

func TestP7_1MissingLinksAreZero(t *testing.T) {
	zero := linked(element(8, link(0, 0), link(0, 0)), element(2, link(0, 0), link(0, 0)), element(5, link(0, 0), link(0, 0)), element(1, link(0, 0), link(0, 0)))
	for _, links := range [][]api.Linked{nil, linked(), linked(element(2)), linked(element(1), element(2), element(5), element(8)), linked(element(3, link(1, 2), link(1, 2))), linked(element(0, link(1, 2)))} {
		wantNormal(t, four(), links, 1, zero)
	}
	for i := range four() {
		want := exact(four(), 1)
		want[i].Levels = make([]api.Link, 2)
		wantNormal(t, four(), without(exact(four(), 1), i), 1, want)
		for n := range 3 {
			short := exact(four(), 1)
			short[i].Levels = short[i].Levels[:n]
			want := exact(four(), 1)
			clear(want[i].Levels[n:])
			wantNormal(t, four(), short, 1, want)
		}
	}
}

func TestP7_1TheFirstElementCounts(t *testing.T) {
	one := nodes(node(4, "d", 0))
	wantNormal(t, one, linked(element(4, link(1, 2)), element(4, link(3, 4))), 0, linked(element(4, link(1, 2))))
	wantNormal(t, one, linked(element(3, link(5, 6)), element(4, link(3, 4)), element(4, link(1, 2)), element(4)), 0, linked(element(4, link(3, 4))))
	// The first one counts also where it has fewer levels than another one, or none.
	wantNormal(t, one, linked(element(4, link(1, 2)), element(4, link(3, 4), link(5, 6))), 1, linked(element(4, link(1, 2), link(0, 0))))
	wantNormal(t, one, linked(element(4), element(4, link(3, 4), link(5, 6))), 1, linked(element(4, link(0, 0), link(0, 0))))
	wantNormal(t, one, linked(element(4, link(0, 0)), element(4, link(3, 4))), 0, linked(element(4, link(0, 0))))
	wantNormal(t, one, linked(element(1<<32+4, link(1, 2)), element(-4, link(5, 6)), element(4, link(3, 4))), 0, linked(element(4, link(3, 4))))
}

func TestP7_1TooManyLevels(t *testing.T) {
	many := make([]api.Link, 1000)
	for level := range many {
		many[level] = link(level+1, -level)
	}
	for height := range api.MaxLevels + 1 {
		wantNormal(t, nodes(node(4, "d", 0)), linked(element(4, many...)), height, linked(element(4, many[:height+1]...)))
	}
}

func TestP7_1FewNodes(t *testing.T) {
	for height := range api.MaxLevels + 1 {
		wantNormal(t, nil, nil, height, nil)
		wantNormal(t, nodes(), exact(four(), 2), height, nil)
		wantNormal(t, nodes(node(7, "m", 3)), exact(four(), 2), height, linked(element(7, make([]api.Link, height+1)...)))
	}
}

func TestP7_1NormalOfAllLinks(t *testing.T) {
	for _, l := range allRosters() {
		for _, links := range sampleLinks(l) {
			for _, height := range []int{0, 1, 2, api.MaxLevels} {
				var want []api.Linked
				for _, x := range ascending(l) {
					var levels []api.Link
					for level := range height + 1 {
						levels = append(levels, linkOf(links, x.ID, level))
					}
					want = append(want, element(x.ID, levels...))
				}
				wantNormal(t, l, links, height, want)
			}
		}
	}
}

func TestP7_1NothingIsNormal(t *testing.T) {
	for _, l := range allRosters() {
		for _, height := range noLevels {
			wantNormal(t, l, exact(l, 2), height, nil)
			wantNormal(t, l, nil, height, nil)
		}
	}
	for _, l := range noRosters() {
		for _, links := range noRosterLinks(l) {
			for _, height := range []int{-1, 0, 1, api.MaxLevels, api.MaxLevels + 1} {
				wantNormal(t, l, links, height, nil)
			}
		}
	}
}

package ideal

import (
	"math"
	"slices"
	"strconv"
	"strings"
	"testing"

	"skipgraph/api"
)

var (
	longest  = strings.Repeat("k", api.MaxKey)
	tooLong  = longest + "k"
	greatest = strings.Repeat("\xff", api.MaxKey)
)

// noLevels are numbers that are no levels; the lowest 32 bits of some of them are those of levels.
var noLevels = []int{-1, -2, api.MaxLevels + 1, api.MaxLevels + 2, 32, 64, 1 << 32, 1<<32 + 1, math.MinInt32, math.MaxInt32, math.MinInt, math.MinInt + 1, math.MaxInt - 1, math.MaxInt}

func node(id int, key string, word uint32) api.Node { return api.Node{ID: id, Key: key, Word: word} }

func nodes(l ...api.Node) []api.Node { return l }

// withWords returns nodes with these words, whose keys ascend and whose numbers do not.
func withWords(words ...uint32) []api.Node {
	var out []api.Node
	for i, w := range words {
		out = append(out, node(i*37%101+1, "k"+strconv.Itoa(1000+i), w))
	}
	return out
}

// full returns MaxNodes nodes; the word of each is computed from its place.
func full(word func(i int) uint32) []api.Node {
	var words []uint32
	for i := range api.MaxNodes {
		words = append(words, word(i))
	}
	return withWords(words...)
}

func reversed(l []api.Node) []api.Node {
	out := slices.Clone(l)
	slices.Reverse(out)
	return out
}

// orders returns the nodes of l in several orders, the first of which is that of l.
func orders(l []api.Node) [][]api.Node {
	out := [][]api.Node{l, reversed(l)}
	for _, i := range []int{1, 2, len(l) / 2, len(l) - 1} {
		if i > 0 && i < len(l) {
			turned := append(slices.Clone(l[i:]), l[:i]...)
			out = append(out, turned, reversed(turned))
		}
	}
	return out
}

// shortRosters returns the rosters of at most four nodes with these words, ascending by their Keys and not by their IDs.
func shortRosters(words []uint32) [][]api.Node {
	ids := []int{3, 9, 1, 7}
	out := [][]api.Node{nil}
	longer := out
	for i, id := range ids {
		var next [][]api.Node
		for _, l := range longer {
			for _, w := range words {
				next = append(next, append(slices.Clone(l), node(id, string(rune('a'+i)), w)))
			}
		}
		out = append(out, next...)
		longer = next
	}
	return out
}

// specialRosters returns rosters of all kinds, first the one without nodes.
func specialRosters() [][]api.Node {
	return [][]api.Node{
		nodes(), nodes(node(1, "", 0)), nodes(node(math.MaxInt32, greatest, 1<<16-1)), nodes(node(7, longest, 5)),
		nodes(node(1, "a", 0), node(2, "b", 1), node(3, "c", 0)), nodes(node(1, "a", 0), node(2, "b", 1), node(3, "c", 2)),
		nodes(node(9, "", 1), node(4, "\x00", 3), node(5, "A", 1), node(1, "a", 2), node(2, "a\x00", 3), node(3, "aa", 0), node(8, "b", 1), node(6, greatest, 3)),
		withWords(7, 7, 7), withWords(0, 1<<15, 0, 1<<15), withWords(5, 1, 5, 3, 1, 7, 5), withWords(0, 1, 3, 7, 15, 31, 1<<15-1, 1<<16-1),
		// All words are different: in the lowest bits, in the highest ones, and in no simple way.
		full(func(i int) uint32 { return uint32(i) }), full(func(i int) uint32 { return uint32(i) << 10 }), full(func(i int) uint32 { return uint32(i) * 40503 % (1 << 16) }),
		// All are equal, or differ only in their lowest or only in their highest bit.
		full(func(int) uint32 { return 1<<16 - 1 }), full(func(i int) uint32 { return 6 | uint32(i%2) }), full(func(i int) uint32 { return 6 | uint32(i%2)<<15 }),
		full(func(i int) uint32 { return uint32(i * i % 11) }),
	}
}

// sampleRosters returns the special rosters, and short ones with few words that differ in their lowest or their highest bits.
func sampleRosters() [][]api.Node {
	return slices.Concat(specialRosters(), shortRosters([]uint32{0, 1, 2, 3}), shortRosters([]uint32{1, 1 << 14, 1 << 15, 3 << 14}))
}

// noRosters returns lists that roster.Check does not accept, some for each of its reasons.
func noRosters() [][]api.Node {
	most := full(func(i int) uint32 { return uint32(i) })
	return [][]api.Node{
		append(slices.Clone(most), node(5000, "z", 0)), append(slices.Clone(most), most...), make([]api.Node, api.MaxNodes+1),
		nodes(api.Node{}), nodes(node(0, "a", 0), node(1, "b", 0)), nodes(node(1, "a", 0), node(-1, "b", 1)), nodes(node(1, "a", 0), node(1<<31, "b", 1)),
		nodes(node(1, "a", 0), node(math.MinInt, "b", 1)), nodes(node(1, "a", 0), node(math.MaxInt, "b", 1)), append(slices.Clone(most[1:]), node(0, "z", 0)),
		nodes(node(1, tooLong, 0)), nodes(node(1, "a", 0), node(2, tooLong, 1)),
		nodes(node(1, "a", 1<<16)), nodes(node(1, "a", 0), node(2, "b", math.MaxUint32)), nodes(node(2, "b", 1<<16|1), node(1, "a", 0)),
		nodes(node(1, "a", 0), node(1, "b", 1)), nodes(node(1, "a", 0), node(2, "a", 1)), nodes(node(1, "a", 0), node(1, "a", 0)),
		nodes(node(1, "", 0), node(2, "", 1)), append(slices.Clone(most[1:]), node(most[5].ID, "z", 9)), append(slices.Clone(most[1:]), node(5000, most[5].Key, 9)),
	}
}

// together reports whether two words agree in their first bits, as many as level says.
func together(a, b uint32, level int) bool {
	for range level {
		if a%2 != b%2 {
			return false
		}
		a, b = a/2, b/2
	}
	return true
}

// through returns the list of a level through x: the least node that is left over is the next one.
func through(l []api.Node, x api.Node, level int) []api.Node {
	var out []api.Node
	for {
		var next *api.Node
		for i, y := range l {
			behind := len(out) == 0 || y.Key > out[len(out)-1].Key
			if together(x.Word, y.Word, level) && behind && (next == nil || y.Key < next.Key) {
				next = &l[i]
			}
		}
		if next == nil {
			return out
		}
		out = append(out, *next)
	}
}

// allAlone reports whether every list of a level has one node.
func allAlone(l []api.Node, level int) bool {
	for _, x := range l {
		if len(through(l, x, level)) != 1 {
			return false
		}
	}
	return true
}

func wantHeight(t *testing.T, l []api.Node, want int) {
	t.Helper()
	for _, l := range orders(l) {
		if got := Height(l); got != want {
			t.Errorf("Height(%v) = %d, not %d", l, got, want)
		}
	}
}

func TestP6_1Height(t *testing.T) {
	wantHeight(t, nil, 0)
	wantHeight(t, nodes(), 0)
	for _, w := range []uint32{0, 1, 5, 1 << 15, 1<<16 - 1} {
		wantHeight(t, withWords(w), 0)
		// Two nodes with equal words are in one list at all levels.
		wantHeight(t, withWords(w, w), api.MaxLevels)
		for i := range api.MaxLevels {
			// Words that differ in the bit i only, or in that one and the higher ones.
			wantHeight(t, withWords(w, w^1<<i), i+1)
			wantHeight(t, withWords(w, w^(1<<16-1)>>i<<i), i+1)
		}
	}
	for _, x := range []struct {
		words []uint32
		want  int
	}{
		{[]uint32{0, 1, 2}, 2}, {[]uint32{0, 1, 0}, api.MaxLevels}, {[]uint32{0, 1, 2, 3}, 2}, {[]uint32{0, 1, 2, 3, 4}, 3}, {[]uint32{1, 0, 5}, 3},
		{[]uint32{0, 1, 3, 7, 15, 31}, 5}, {[]uint32{0, 1, 2, 1<<15 | 2}, api.MaxLevels}, {[]uint32{0, 1, 2, 1<<14 | 2}, api.MaxLevels - 1},
	} {
		wantHeight(t, withWords(x.words...), x.want)
	}
}

func TestP6_1Examples(t *testing.T) {
	wantHeight(t, nodes(node(1, "a", 0), node(2, "b", 1), node(3, "c", 0)), api.MaxLevels)
	wantHeight(t, nodes(node(1, "a", 0), node(2, "b", 1), node(3, "c", 2)), 2)
}

func TestP6_1HeightOfMaxNodes(t *testing.T) {
	for _, x := range []struct {
		word func(i int) uint32
		want int
	}{
		{func(i int) uint32 { return uint32(i) }, 6}, {func(i int) uint32 { return uint32(api.MaxNodes-1-i) << 3 }, 9}, {func(i int) uint32 { return uint32(i) << 10 }, api.MaxLevels},
		{func(i int) uint32 { return uint32(i) << 9 }, api.MaxLevels - 1}, {func(int) uint32 { return 0 }, api.MaxLevels}, {func(i int) uint32 { return uint32(i % 63) }, api.MaxLevels},
		{func(i int) uint32 { return uint32(i % 2) }, api.MaxLevels}, {func(i int) uint32 { return uint32(i%2) << 15 }, api.MaxLevels},
	} {
		wantHeight(t, full(x.word), x.want)
	}
}

func TestP6_1HeightIsTheLeastLevel(t *testing.T) {
	for _, l := range sampleRosters() {
		want := 0
		for want < api.MaxLevels && !allAlone(l, want) {
			want++
		}
		wantHeight(t, l, want)
	}
}

func TestP6_1HeightOfNoRoster(t *testing.T) {
	for _, l := range noRosters() {
		wantHeight(t, l, 0)
	}
}

package redundant

import (
	"math"
	"slices"
	"strconv"
	"strings"
	"testing"

	"skipgraph/api"
)

var (
	longest  = strings.Repeat("k", api.MaxKey)
	tooLong  = longest + "k"
	greatest = strings.Repeat("\xff", api.MaxKey)
)

// noLevels are numbers that are no levels; the lowest 32 bits of some of them are those of levels.
var noLevels = []int{-1, -2, api.MaxLevels + 1, api.MaxLevels + 2, 32, 64, 1 << 32, 1<<32 + 1, math.MinInt32, math.MaxInt32, math.MinInt, math.MinInt + 1, math.MaxInt - 1, math.MaxInt}

// noWidths are less than 1, and those in great are more than there are nodes; the lowest 32 bits of some are those of other widths.
var (
	noWidths = []int{0, -1, -2, -api.MaxNodes, math.MinInt32, -1 << 32, -1<<32 + 2, math.MinInt, math.MinInt + 1}
	great    = []int{api.MaxNodes, api.MaxNodes + 1, math.MaxInt32, 1 << 31, 1 << 32, 1<<32 + 1, math.MaxInt - 1, math.MaxInt}
)

// strangers are numbers that no node of the rosters below has; the lowest 32 bits of some of them are those of nodes.
var strangers = []int{0, -1, -2, -8, 6000, 1 << 31, 1 << 32, 1<<32 + 1, 1<<32 + 8, -1 << 32, -1<<32 + 5, math.MinInt, math.MaxInt}

func node(id int, key string, word uint32) api.Node { return api.Node{ID: id, Key: key, Word: word} }

func nodes(l ...api.Node) []api.Node { return l }

// five are nodes at a to e with the words 000, 001, 010, 011 and 100.
func five() []api.Node {
	return nodes(node(8, "a", 0), node(2, "b", 1), node(5, "c", 2), node(1, "d", 3), node(7, "e", 4))
}

// withWords returns nodes with these words, whose keys ascend and whose numbers do not.
func withWords(words ...uint32) []api.Node {
	var out []api.Node
	for i, w := range words {
		out = append(out, node(i*37%101+1, "k"+strconv.Itoa(1000+i), w))
	}
	return out
}

// full returns MaxNodes nodes; the word of each is computed from its place.
func full(word func(i int) uint32) []api.Node {
	var words []uint32
	for i := range api.MaxNodes {
		words = append(words, word(i))
	}
	return withWords(words...)
}

func reversed[T any](l []T) []T {
	out := slices.Clone(l)
	slices.Reverse(out)
	return out
}

// orders returns the elements of l in several orders, the first of which is that of l.
func orders[T any](l []T) [][]T {
	out := [][]T{l, reversed(l)}
	for _, i := range []int{1, len(l) / 2} {
		if i > 0 && i < len(l) {
			turned := append(slices.Clone(l[i:]), l[:i]...)
			out = append(out, turned, reversed(turned))
		}
	}
	return out
}

// sampleRosters returns rosters of few nodes of all kinds, ascending by their Keys, first the one without nodes.
func sampleRosters() [][]api.Node {
	return [][]api.Node{
		nodes(), nodes(node(1, "", 0)), nodes(node(math.MaxInt32, greatest, 1<<16-1)), nodes(node(7, longest, 5)),
		nodes(node(1, "a", 0), node(2, "b", 1), node(3, "c", 2)), nodes(node(2, "", 4), node(1, "a", 4)), five(),
		nodes(node(9, "", 1), node(4, "\x00", 3), node(5, "A", 1), node(1, "a", 2), node(2, "a\x00", 3), node(3, "aa", 0), node(8, "b", 1), node(6, greatest, 3)),
		withWords(7, 7, 7), withWords(0, 1<<15, 0, 1<<15), withWords(5, 1, 5, 3, 1, 7, 5), withWords(0, 1, 3, 7, 15, 31, 1<<15-1, 1<<16-1),
	}
}

// fullRosters returns rosters of MaxNodes nodes, whose words are all different, all equal, or of a few kinds.
func fullRosters() [][]api.Node {
	return [][]api.Node{
		full(func(i int) uint32 { return uint32(i) }), full(func(i int) uint32 { return uint32(i) << 10 }), full(func(i int) uint32 { return uint32(i) * 40503 % (1 << 16) }),
		full(func(int) uint32 { return 1<<16 - 1 }), full(func(i int) uint32 { return 6 | uint32(i%2)<<15 }), full(func(i int) uint32 { return uint32(i * i % 11) }),
	}
}

func allRosters() [][]api.Node { return append(sampleRosters(), fullRosters()...) }

// noRosters returns lists that roster.Check does not accept, some for each of its reasons.
func noRosters() [][]api.Node {
	most := full(func(i int) uint32 { return uint32(i) })
	return [][]api.Node{
		append(slices.Clone(most), node(5000, "z", 0)), append(slices.Clone(most), most...), make([]api.Node, api.MaxNodes+1),
		nodes(api.Node{}), nodes(node(0, "a", 0), node(1, "b", 0)), nodes(node(1, "a", 0), node(-1, "b", 1)), nodes(node(1, "a", 0), node(1<<31, "b", 1)),
		nodes(node(1, "a", 0), node(math.MinInt, "b", 1)), nodes(node(1, "a", 0), node(math.MaxInt, "b", 1)), append(slices.Clone(most[1:]), node(0, "z", 0)),
		nodes(node(1, tooLong, 0)), nodes(node(1, "a", 0), node(2, tooLong, 1)),
		nodes(node(1, "a", 1<<16)), nodes(node(1, "a", 0), node(2, "b", math.MaxUint32)), nodes(node(2, "b", 1<<16|1), node(1, "a", 0)),
		nodes(node(1, "a", 0), node(1, "b", 1)), nodes(node(1, "a", 0), node(2, "a", 1)), nodes(node(1, "a", 0), node(1, "a", 0)),
		nodes(node(1, "", 0), node(2, "", 1)), append(slices.Clone(most[1:]), node(most[5].ID, "z", 9)), append(slices.Clone(most[1:]), node(5000, most[5].Key, 9)),
	}
}

func ids(l []api.Node) []int {
	var out []int
	for _, x := range l {
		out = append(out, x.ID)
	}
	return out
}

// together reports whether two words agree in their first bits, as many as level says.
func together(a, b uint32, level int) bool {
	for range level {
		if a%2 != b%2 {
			return false
		}
		a, b = a/2, b/2
	}
	return true
}

// bit returns a bit of a word, by dividing.
func bit(w uint32, i int) int {
	for range i {
		w /= 2
	}
	return int(w % 2)
}

// through returns the list of a level through x.
func through(l []api.Node, x api.Node, level int) []api.Node {
	var out []api.Node
	for _, y := range l {
		if together(x.Word, y.Word, level) {
			out = append(out, y)
		}
	}
	slices.SortFunc(out, func(a, b api.Node) int { return strings.Compare(a.Key, b.Key) })
	return out
}

// ascending returns the nodes of a roster in the order of their Keys.
func ascending(l []api.Node) []api.Node {
	if len(l) == 0 {
		return nil
	}
	return through(l, l[0], 0)
}

// contactsOf returns the numbers of the nodes whose distance to x in a list of the levels up to height is from 1 to width.
func contactsOf(l []api.Node, x api.Node, width, height int) []int {
	nearest := map[int]int{}
	for level := range height + 1 {
		list := through(l, x, level)
		place := slices.Index(list, x)
		for i, y := range list {
			distance := max(i-place, place-i)
			if old, found := nearest[y.ID]; !found || distance < old {
				nearest[y.ID] = distance
			}
		}
	}
	var out []int
	for _, y := range ascending(l) {
		if distance, found := nearest[y.ID]; found && distance >= 1 && distance <= width {
			out = append(out, y.ID)
		}
	}
	return out
}

// wantContacts examines Contacts for the nodes in several orders.
func wantContacts(t *testing.T, l []api.Node, id, width, height int, want ...int) {
	t.Helper()
	for _, l := range orders(l) {
		if got := Contacts(l, id, width, height); !slices.Equal(got, want) {
			t.Errorf("Contacts(%v, %d, %d, %d) = %v, not %v", l, id, width, height, got, want)
		}
	}
}

func TestP14_1Contacts(t *testing.T) {
	// The lists: 8 2 5 1 7 at level 0; 8 5 7 and 2 1 at level 1; 8 7, 5, 2 and 1 at level 2; single nodes from level 3 on.
	wantContacts(t, five(), 8, 1, 0, 2)
	wantContacts(t, five(), 8, 1, 1, 2, 5)
	wantContacts(t, five(), 8, 1, 2, 2, 5, 7)
	wantContacts(t, five(), 8, 1, 3, 2, 5, 7)
	wantContacts(t, five(), 8, 1, api.MaxLevels, 2, 5, 7)
	wantContacts(t, five(), 8, 2, 0, 2, 5)
	wantContacts(t, five(), 8, 2, 1, 2, 5, 7)
	wantContacts(t, five(), 8, 3, 0, 2, 5, 1)
	wantContacts(t, five(), 2, 1, 0, 8, 5)
	wantContacts(t, five(), 2, 1, 1, 8, 5, 1)
	wantContacts(t, five(), 5, 1, 0, 2, 1)
	wantContacts(t, five(), 5, 1, 1, 8, 2, 1, 7)
	wantContacts(t, five(), 1, 1, 0, 5, 7)
	wantContacts(t, five(), 1, 1, 1, 2, 5, 7)
	wantContacts(t, five(), 7, 1, 0, 1)
	wantContacts(t, five(), 7, 2, 0, 5, 1)
	wantContacts(t, five(), 7, 1, 1, 5, 1)
	wantContacts(t, five(), 7, 1, 2, 8, 5, 1)
}

func TestP14_1Example(t *testing.T) {
	l := nodes(node(1, "a", 0), node(2, "b", 0), node(3, "c", 0), node(4, "d", 0), node(5, "e", 0))
	wantContacts(t, l, 3, 2, 0, 1, 2, 4, 5)
	wantContacts(t, l, 1, 2, 0, 2, 3)
	// With equal words, all levels have the same list: a node that is near at all of them is there once.
	for height := range api.MaxLevels + 1 {
		wantContacts(t, l, 3, 2, height, 1, 2, 4, 5)
		wantContacts(t, l, 1, 2, height, 2, 3)
		wantContacts(t, l, 5, 1, height, 4)
	}
}

func TestP14_1WordsThatDifferInOneBit(t *testing.T) {
	// The node in the middle leaves the list of the other two at the level behind the bit.
	for i := range api.MaxLevels {
		l := nodes(node(3, "a", 9), node(2, "b", 9^1<<i), node(4, "c", 9))
		for height := range api.MaxLevels + 1 {
			wantContacts(t, l, 2, 1, height, 3, 4)
			if height <= i {
				wantContacts(t, l, 3, 1, height, 2)
				wantContacts(t, l, 4, 1, height, 2)
			} else {
				wantContacts(t, l, 3, 1, height, 2, 4)
				wantContacts(t, l, 4, 1, height, 3, 2)
			}
		}
	}
}

func TestP14_1GreatWidths(t *testing.T) {
	for _, l := range [][]api.Node{five(), withWords(7, 7, 7), fullRosters()[0], fullRosters()[3]} {
		for _, width := range append(great, len(l)-1, len(l), len(l)+1) {
			for place, x := range l {
				want := slices.Delete(ids(l), place, place+1)
				wantContacts(t, l, x.ID, width, 0, want...)
				wantContacts(t, l, x.ID, width, api.MaxLevels, want...)
			}
		}
		// One less: the last node is too far from the first one at level 0.
		if got := Contacts(l, l[0].ID, len(l)-2, 0); !slices.Equal(got, ids(l)[1:len(l)-1]) {
			t.Errorf("Contacts(%v, %d, %d, 0) = %v", l, l[0].ID, len(l)-2, got)
		}
	}
}

func TestP14_1FewNodes(t *testing.T) {
	for _, width := range append(great, 1) {
		for height := range api.MaxLevels + 1 {
			wantContacts(t, nil, 0, width, height)
			wantContacts(t, nodes(), 1, width, height)
			wantContacts(t, nodes(node(7, "m", 3)), 7, width, height)
			wantContacts(t, nodes(node(7, "m", 3), node(4, "l", 5)), 7, width, height, 4)
			wantContacts(t, nodes(node(7, "m", 3), node(4, "l", 5)), 4, width, height, 7)
		}
	}
}

func TestP14_1ContactsOfAllNodes(t *testing.T) {
	for _, l := range allRosters() {
		for _, x := range l {
			for _, width := range []int{1, 2, 3, 7} {
				for _, height := range []int{0, 1, 2, 5, api.MaxLevels} {
					want := contactsOf(l, x, width, height)
					if got := Contacts(reversed(l), x.ID, width, height); !slices.Equal(got, want) {
						t.Fatalf("Contacts(%v, %d, %d, %d) = %v, not %v", l, x.ID, width, height, got, want)
					}
					if len(l) < 10 {
						wantContacts(t, l, x.ID, width, height, want...)
					}
				}
			}
		}
	}
}

func TestP14_1ContactsKnowEachOther(t *testing.T) {
	for _, l := range allRosters() {
		for _, x := range l {
			for _, id := range Contacts(l, x.ID, 2, 3) {
				if !slices.Contains(Contacts(l, id, 2, 3), x.ID) {
					t.Fatalf("the node %d of %v knows %d, which does not know it", x.ID, l, id)
				}
			}
		}
	}
}

func TestP14_1NoContacts(t *testing.T) {
	for _, l := range allRosters() {
		for _, id := range strangers {
			for _, height := range []int{0, 3, api.MaxLevels} {
				wantContacts(t, l, id, 1, height)
				wantContacts(t, l, id, math.MaxInt, height)
			}
		}
		for _, x := range l[:min(len(l), 8)] {
			for _, height := range noLevels {
				wantContacts(t, l, x.ID, 1, height)
				wantContacts(t, l, x.ID, math.MaxInt, height)
			}
			for _, width := range noWidths {
				wantContacts(t, l, x.ID, width, 0)
				wantContacts(t, l, x.ID, width, 3)
				wantContacts(t, l, x.ID, width, api.MaxLevels)
			}
		}
	}
}

func TestP14_1NoRoster(t *testing.T) {
	for _, l := range noRosters() {
		for _, x := range append(l, five()...) {
			for _, height := range []int{-1, 0, 1, api.MaxLevels, api.MaxLevels + 1} {
				for _, width := range []int{0, 1, 2, math.MaxInt} {
					if got := Contacts(l, x.ID, width, height); len(got) > 0 {
						t.Errorf("Contacts(%v, %d, %d, %d) = %v", l, x.ID, width, height, got)
					}
				}
			}
		}
	}
}

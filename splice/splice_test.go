package splice

import (
	"math"
	"slices"
	"strconv"
	"strings"
	"testing"

	"skipgraph/api"
	"skipgraph/ideal"
	"skipgraph/inspect"
	"skipgraph/roster"
)

var (
	tooLong  = strings.Repeat("k", api.MaxKey+1)
	greatest = strings.Repeat("\xff", api.MaxKey)
)

// noLevels are numbers that are no levels; the lowest 32 bits of some of them are those of levels.
var noLevels = []int{-1, api.MaxLevels + 1, 1 << 32, 1<<32 + 1, math.MinInt32, math.MaxInt32, math.MinInt, math.MaxInt}

// words are rules for the words of nodes, by their places.
var words = []func(i int) uint32{
	// All are different: in the lowest bits, in the highest ones behind lower ones that they share, and in no simple way.
	func(i int) uint32 { return uint32(i) }, func(i int) uint32 { return uint32(i)<<10 | 5 }, func(i int) uint32 { return uint32(i) * 40503 % (1 << 16) },
	// All are equal, or differ only in their highest bit, or are of a few kinds.
	func(int) uint32 { return 1<<16 - 1 }, func(i int) uint32 { return 6 | uint32(i%2)<<15 }, func(i int) uint32 { return uint32(i * i % 11) },
}

func node(id int, key string, word uint32) api.Node { return api.Node{ID: id, Key: key, Word: word} }

func nodes(l ...api.Node) []api.Node { return l }

func linked(l ...api.Linked) []api.Linked { return l }

// element returns the links of a node at the levels from 0 on.
func element(id int, levels ...api.Link) api.Linked { return api.Linked{ID: id, Levels: levels} }

func link(left, right int) api.Link { return api.Link{Left: left, Right: right} }

// four are nodes at a, b, c and d with the words 00, 01, 10 and 11.
func four() []api.Node {
	return nodes(node(8, "a", 0), node(2, "b", 1), node(5, "c", 2), node(1, "d", 3))
}

// linksOfFour are the links of these nodes at the levels 0, 1 and 2.
func linksOfFour() []api.Linked {
	return linked(
		element(8, link(0, 2), link(0, 5), link(0, 0)), element(2, link(8, 5), link(0, 1), link(0, 0)),
		element(5, link(2, 1), link(8, 0), link(0, 0)), element(1, link(5, 0), link(2, 0), link(0, 0)),
	)
}

// ranked returns n nodes, whose Keys ascend and whose numbers do not.
func ranked(n int, word func(i int) uint32) []api.Node {
	var out []api.Node
	for i := range n {
		out = append(out, node(i*37%101+1, "k"+strconv.Itoa(1000+i), word(i)))
	}
	return out
}

// withWords returns such nodes with these words.
func withWords(words ...uint32) []api.Node {
	return ranked(len(words), func(i int) uint32 { return words[i] })
}

// rosters returns rosters in the order of their Keys, first the one without nodes.
func rosters() [][]api.Node {
	out := [][]api.Node{
		nil, nodes(node(1, "", 0)), nodes(node(math.MaxInt32, greatest, 1<<16-1)), nodes(node(2, "", 4), node(1, "a", 4)), four(),
		nodes(node(9, "", 1), node(4, "\x00", 3), node(5, "A", 1), node(1, "a", 2), node(2, "a\x00", 3), node(3, "aa", 0), node(8, "b", 1), node(6, greatest, 3)),
	}
	for _, word := range words {
		for _, n := range []int{1, 3, 5, api.MaxNodes} {
			out = append(out, ranked(n, word))
		}
	}
	return out
}

// rostersWithRoom returns rosters of at most MaxNodes - 1 nodes.
func rostersWithRoom() [][]api.Node {
	out := rosters()
	for i, l := range out {
		if len(l) == api.MaxNodes {
			out[i] = l[1:]
		}
	}
	return out
}

// shortRosters returns those of them that have at most 5 nodes.
func shortRosters() [][]api.Node {
	return slices.DeleteFunc(rosters(), func(l []api.Node) bool { return len(l) > 5 })
}

// someOf returns about n elements of l, the first and the last one among them.
func someOf[T any](l []T, n int) []T {
	var out []T
	for i := 0; i < len(l)-1; i += 1 + len(l)/n {
		out = append(out, l[i])
	}
	return append(out, l[max(len(l)-1, 0):]...)
}

// heights returns levels, the least and the greatest one and those around the Height of l among them.
func heights(l []api.Node) []int {
	h := ideal.Height(l)
	out := []int{0, 1, max(h-1, 0), h, min(h+1, api.MaxLevels), api.MaxLevels}
	slices.Sort(out)
	return slices.Compact(out)
}

func reversed[T any](l []T) []T {
	out := slices.Clone(l)
	slices.Reverse(out)
	return out
}

// orders returns the nodes of l in several orders, the first of which is that of l.
func orders(l []api.Node) [][]api.Node {
	half := len(l) / 2
	turned := slices.Concat(l[half:], l[:half])
	return [][]api.Node{l, reversed(l), turned, reversed(turned)}
}

// without returns the nodes of l but for the one with the index i.
func without(l []api.Node, i int) []api.Node { return slices.Concat(l[:i], l[i+1:]) }

// with returns the nodes of l followed by x.
func with(l []api.Node, x api.Node) []api.Node { return slices.Concat(l, nodes(x)) }

// exact returns the links of the unique skip graph.
func exact(l []api.Node, height int) []api.Linked {
	out, _ := ideal.Build(l, height)
	return out
}

// spoilt returns lists that are no rosters: for each reason, one in which nothing else is wrong.
func spoilt() [][]api.Node {
	out := [][]api.Node{
		ranked(api.MaxNodes+1, words[0]), make([]api.Node, api.MaxNodes+1), nodes(api.Node{}),
		with(four(), node(8, "y", 0)), with(four(), node(500, "a", 0)), with(four(), four()[3]), with(four(), node(1, "y", 3)), slices.Concat(four(), four()),
	}
	for _, x := range invalid() {
		out = append(out, nodes(x), with(four(), x), slices.Concat(nodes(x), four()))
	}
	return out
}

// invalid returns nodes that no roster has: because of their numbers, their Keys or their words.
func invalid() []api.Node {
	return nodes(
		node(0, "y", 0), node(-1, "y", 0), node(-500, "y", 0), node(1<<31, "y", 0), node(1<<32+500, "y", 0), node(math.MinInt, "y", 0), node(math.MaxInt, "y", 0),
		node(500, tooLong, 0), node(500, strings.Repeat("y", 1000), 0), node(500, "y", 1<<16), node(500, "y", 1<<16|1), node(500, "y", math.MaxUint32),
	)
}

// inexact returns links of l that are not exact.
func inexact(l []api.Node, height int) [][]api.Linked {
	right := exact(l, height)
	none := make([]api.Link, height+1)
	// Of another roster.
	out := [][]api.Linked{exact(with(l, node(500, "y", 0)), height), append(exact(l, height), element(600, none...)), append(linked(element(0, none...)), right...)}
	if len(l) == 0 {
		return out
	}
	out = append(out, nil, linked(), exact(l[1:], height), exact(l[:len(l)-1], height))
	// Of another height.
	if height < api.MaxLevels {
		out = append(out, exact(l, height+1), exact(l, api.MaxLevels))
	}
	if height > 0 {
		out = append(out, exact(l, height-1), exact(l, 0))
	}
	// In another order.
	if len(l) > 1 {
		out = append(out, reversed(right), slices.Concat(right[1:], right[:1]))
	}
	for i := 0; i < len(l); i += 1 + len(l)/4 {
		// Missing, and twice.
		out = append(out, slices.Concat(right[:i], right[i+1:]), slices.Concat(right[:i+1], right[i:]), append(exact(l, height), right[i]))
		out = append(out, changed(l, height, i)...)
	}
	return out
}

// changed returns links that differ from the exact ones in the element with the index i.
func changed(l []api.Node, height, i int) [][]api.Linked {
	var out [][]api.Linked
	for _, change := range []func(x *api.Linked){
		func(x *api.Linked) { x.ID = 600 }, func(x *api.Linked) { x.ID += 1 << 32 }, func(x *api.Linked) { x.Levels = nil },
		func(x *api.Linked) { x.Levels = x.Levels[:height] }, func(x *api.Linked) { x.Levels = append(x.Levels, api.Link{}) },
		func(x *api.Linked) { x.Levels[0].Left-- }, func(x *api.Linked) { x.Levels[0].Right = 600 }, func(x *api.Linked) { x.Levels[0].Right = x.ID },
		func(x *api.Linked) { x.Levels[height].Left += 1 << 32 }, func(x *api.Linked) { x.Levels[height].Right++ },
	} {
		links := exact(l, height)
		change(&links[i])
		out = append(out, links)
	}
	return out
}

// defective returns links of four at the levels 0 and 1 with one defect, for defects of each kind.
func defective(t *testing.T) [][]api.Linked {
	t.Helper()
	var out [][]api.Linked
	for _, x := range []struct {
		kind, place, level int
		have               api.Link
	}{
		{api.DefectMissing, 0, 0, link(0, 0)}, {api.DefectMissing, 2, 1, link(0, 0)}, {api.DefectDangling, 0, 0, link(3, 2)}, {api.DefectDangling, 2, 1, link(8, -1)},
		{api.DefectSide, 1, 0, link(8, 2)}, {api.DefectSide, 3, 0, link(5, 8)}, {api.DefectSide, 0, 1, link(5, 5)}, {api.DefectGroup, 0, 1, link(0, 2)}, {api.DefectGroup, 3, 1, link(5, 0)},
		{api.DefectSkips, 0, 0, link(0, 5)}, {api.DefectSkips, 3, 0, link(2, 0)},
	} {
		links := exact(four(), 1)
		links[x.place].Levels[x.level] = x.have
		if d := inspect.Check(four(), links, 1); len(d) != 1 || d[0].Kind != x.kind {
			t.Fatalf("the links %v have the defects %v, not one of the kind %d", links, d, x.kind)
		}
		out = append(out, links)
	}
	return out
}

// strangers returns numbers that none of the nodes has; the lowest 32 bits of some of them are those of nodes.
func strangers(l []api.Node) []int {
	out := []int{0, -1, 700, 1 << 31, 1 << 32, math.MaxInt32 - 1, math.MinInt32, math.MinInt, math.MaxInt}
	for _, x := range someOf(l, 3) {
		out = append(out, -x.ID, x.ID+1<<32)
	}
	return out
}

// Insert undoes what Remove did, from every other node.
func TestP10_2InsertWhatWasRemoved(t *testing.T) {
	for _, l := range rosters() {
		for _, height := range heights(l) {
			for _, x := range someOf(l, 6) {
				rest := roster.Without(l, []int{x.ID})
				links, _, err := Remove(l, exact(l, height), x.ID, height)
				if err != api.OK {
					t.Fatalf("Remove of %d from %v has the error %d", x.ID, l, err)
				}
				for _, y := range someOf(rest, 4) {
					back, _, err := Insert(rest, links, x, y.ID, height)
					if err != api.OK || !ideal.Same(back, exact(l, height)) {
						t.Fatalf("after the removal of %v from %v, Insert from %d is %v, %d", x, l, y.ID, back, err)
					}
				}
			}
		}
	}
}

// Remove undoes what Insert did.
func TestP10_1RemoveWhatWasInserted(t *testing.T) {
	for _, l := range rostersWithRoom() {
		for _, height := range heights(l) {
			for _, x := range newcomers(l) {
				links, _, err := Insert(l, exact(l, height), x, firstID(l), height)
				if err != api.OK {
					t.Fatalf("Insert of %v into %v has the error %d", x, l, err)
				}
				back, _, err := Remove(with(l, x), links, x.ID, height)
				if err != api.OK || !ideal.Same(back, exact(l, height)) {
					t.Fatalf("after the insertion of %v into %v, Remove is %v, %d", x, l, back, err)
				}
			}
		}
	}
}

// firstID returns the number of the first node, and 0 if there is none.
func firstID(l []api.Node) int {
	if len(l) == 0 {
		return 0
	}
	return l[0].ID
}

// newcomers returns nodes that can join those of l: below, above and between them, with words that all, some or none of them have.
func newcomers(l []api.Node) []api.Node {
	var out []api.Node
	for _, key := range []string{"", "a\x00\x00", "bb", "k10005", "k1020\x00", "l", greatest} {
		for _, w := range []uint32{0, 2, 1<<16 - 1, 6 | 1<<15} {
			x := node(500, key, w)
			if roster.Check(with(l, x)) == api.OK {
				out = append(out, x)
			}
		}
	}
	return out
}

// insertAll inserts the nodes of rest in all orders, each from all nodes that are there, and examines the links in the end.
func insertAll(t *testing.T, present []api.Node, links []api.Linked, rest []api.Node, height int, want []api.Linked) {
	t.Helper()
	if len(rest) == 0 && !ideal.Same(links, want) {
		t.Fatalf("the links of %v, inserted in this order, are %v, not %v", present, links, want)
	}
	for i, x := range rest {
		// Without nodes, any number does.
		from := present
		if len(present) == 0 {
			from = nodes(node(0, "", 0))
		}
		for _, y := range from {
			next, _, err := Insert(present, links, x, y.ID, height)
			if err != api.OK {
				t.Fatalf("Insert of %v into %v from %d has the error %d", x, present, y.ID, err)
			}
			insertAll(t, with(present, x), next, without(rest, i), height, want)
		}
	}
}

func TestP10_1AllOrdersOfInsertion(t *testing.T) {
	for _, l := range shortRosters() {
		for _, height := range []int{0, 2, api.MaxLevels} {
			insertAll(t, nil, nil, l, height, exact(l, height))
		}
	}
}

// MaxNodes nodes are inserted one after another, and then removed in another order.
func TestP10_2AllNodesComeAndGo(t *testing.T) {
	for _, word := range words {
		l := ranked(api.MaxNodes, word)
		for _, height := range []int{0, 3, api.MaxLevels} {
			var present []api.Node
			var links []api.Linked
			var err api.Errno
			for i := range l {
				x := l[i*27%len(l)]
				if links, _, err = Insert(present, links, x, firstID(present), height); err != api.OK {
					t.Fatalf("Insert of %v into %v has the error %d", x, present, err)
				}
				present = with(present, x)
			}
			if !ideal.Same(links, exact(l, height)) {
				t.Fatalf("the links of %v are %v", present, links)
			}
			for i := range l {
				x := l[i*45%len(l)]
				if links, _, err = Remove(present, links, x.ID, height); err != api.OK {
					t.Fatalf("Remove of %v from %v has the error %d", x, present, err)
				}
				present = roster.Without(present, []int{x.ID})
				if !ideal.Same(links, exact(present, height)) {
					t.Fatalf("the links of %v are %v", present, links)
				}
			}
		}
	}
}

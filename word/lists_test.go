package word

import (
	"math"
	"slices"
	"strconv"
	"testing"

	"skipgraph/api"
)

func nodes(l ...api.Node) []api.Node { return l }

// withWords returns nodes that have the given words, and numbers and keys by which they can be told apart.
func withWords(words ...uint32) []api.Node {
	var out []api.Node
	for i, w := range words {
		out = append(out, api.Node{ID: i + 1, Key: "k" + strconv.Itoa(i), Word: w})
	}
	return out
}

func ids(l []api.Node) []int {
	var out []int
	for _, x := range l {
		out = append(out, x.ID)
	}
	return out
}

func idsOfAll(l [][]api.Node) [][]int {
	var out [][]int
	for _, c := range l {
		out = append(out, ids(c))
	}
	return out
}

func equal[T comparable](a, b [][]T) bool { return slices.EqualFunc(a, b, slices.Equal[[]T]) }

// sampleLists returns lists with no nodes, with equal and with different words, also with bits from MaxLevels on, and lists
// that are no rosters.
func sampleLists() [][]api.Node {
	all := sampleWords()
	back := slices.Clone(all)
	slices.Reverse(back)
	return [][]api.Node{
		nil, nodes(), nodes(api.Node{}), nodes(api.Node{}, api.Node{}),
		withWords(0), withWords(7, 7, 7), withWords(0, 1, 0, 1, 1, 0), withWords(0, 1, 2, 1|1<<20, 3), withWords(3, 1|1<<20, 2, 1, 0),
		withWords(0, 1<<16, 1<<15, 1<<31, math.MaxUint32, 1<<16-1), withWords(all...), withWords(back...), withWords(append(back, all...)...),
		nodes(api.Node{ID: 2, Key: "b", Word: 1}, api.Node{ID: -1, Key: "a"}, api.Node{ID: 2, Key: "b", Word: 1}, api.Node{ID: 2, Key: "c", Word: 3}),
	}
}

func TestP4_3Group(t *testing.T) {
	l := withWords(0, 1, 2, 1|1<<20, 3)
	for _, x := range []struct {
		level int
		w     uint32
		want  []int
	}{
		{0, 9, []int{1, 2, 3, 4, 5}}, {-1, 0, []int{1, 2, 3, 4, 5}}, {math.MinInt, math.MaxUint32, []int{1, 2, 3, 4, 5}},
		{1, 1, []int{2, 4, 5}}, {1, 0, []int{1, 3}}, {1, math.MaxUint32, []int{2, 4, 5}}, {2, 1, []int{2, 4}}, {2, 3, []int{5}}, {3, 7, nil},
		// The words of the nodes and w may differ from MaxLevels on.
		{16, 1, []int{2, 4}}, {16, 1 | 1<<31, []int{2, 4}}, {16, 1 << 16, []int{1}}, {16, 8, nil}, {15, 1 << 15, []int{1}}, {16, 1 << 15, nil},
		{17, 1, nil}, {18, 0, nil}, {32, 1, nil}, {33, 1 | 1<<20, nil}, {math.MaxInt, 1, nil},
	} {
		if got := Group(l, x.level, x.w); !slices.Equal(ids(got), x.want) {
			t.Errorf("Group at %d of %d: %v", x.level, x.w, got)
		}
	}
	for _, empty := range [][]api.Node{nil, {}} {
		for _, level := range sampleLevels() {
			if got := Group(empty, level, 0); len(got) > 0 {
				t.Errorf("Group of no nodes at %d: %v", level, got)
			}
		}
	}
}

func TestP4_3Classes(t *testing.T) {
	for _, x := range []struct {
		l     []api.Node
		level int
		want  [][]int
	}{
		{withWords(0, 1, 2, 1|1<<20, 3), 0, [][]int{{1, 2, 3, 4, 5}}}, {withWords(0, 1, 2, 1|1<<20, 3), -1, [][]int{{1, 2, 3, 4, 5}}},
		{withWords(0, 1, 2, 1|1<<20, 3), math.MinInt, [][]int{{1, 2, 3, 4, 5}}}, {withWords(0, 1, 2, 1|1<<20, 3), 1, [][]int{{1, 3}, {2, 4, 5}}},
		{withWords(0, 1, 2, 1|1<<20, 3), 2, [][]int{{1}, {2, 4}, {3}, {5}}}, {withWords(0, 1, 2, 1|1<<20, 3), 16, [][]int{{1}, {2, 4}, {3}, {5}}},
		{withWords(0, 1, 2, 1|1<<20, 3), 17, nil}, {withWords(0, 1, 2, 1|1<<20, 3), 33, nil}, {withWords(0, 1, 2, 1|1<<20, 3), math.MaxInt, nil},
		// The lists are in the order of their first nodes, not of words.
		{withWords(3, 0, 2, 3, 1, 0), 2, [][]int{{1, 4}, {2, 6}, {3}, {5}}}, {withWords(3, 0, 2, 3, 1, 0), 1, [][]int{{1, 4, 5}, {2, 3, 6}}},
		{withWords(7, 7, 7), 16, [][]int{{1, 2, 3}}}, {withWords(7, 7, 7), 17, nil}, {withWords(9), 16, [][]int{{1}}}, {withWords(9), 17, nil},
		// The last bit that matters, and the first one that does not.
		{withWords(1<<15, 0, 1<<15), 15, [][]int{{1, 2, 3}}}, {withWords(1<<15, 0, 1<<15), 16, [][]int{{1, 3}, {2}}}, {withWords(1<<16, 0, 1<<31), 16, [][]int{{1, 2, 3}}},
		{nodes(api.Node{ID: 5}, api.Node{ID: 5}, api.Node{ID: -5, Word: 1}), 1, [][]int{{5, 5}, {-5}}},
	} {
		if got := Classes(x.l, x.level); !equal(idsOfAll(got), x.want) {
			t.Errorf("Classes of %v at %d: %v", x.l, x.level, got)
		}
	}
	for _, empty := range [][]api.Node{nil, {}} {
		for _, level := range sampleLevels() {
			if got := Classes(empty, level); len(got) > 0 {
				t.Errorf("Classes of no nodes at %d: %v", level, got)
			}
		}
	}
}

// grouped returns the nodes of l that agree with w in the first level bits.
func grouped(l []api.Node, level int, w uint32) []api.Node {
	return slices.DeleteFunc(slices.Clone(l), func(x api.Node) bool { return agreeing(x.Word, w) < level })
}

// classed takes the class of the first node away until none is left.
func classed(l []api.Node, level int) [][]api.Node {
	var out [][]api.Node
	for level <= api.MaxLevels && len(l) > 0 {
		first := l[0].Word
		out = append(out, grouped(l, level, first))
		l = slices.DeleteFunc(slices.Clone(l), func(x api.Node) bool { return agreeing(x.Word, first) >= level })
	}
	return out
}

func TestP4_3AllSampleLists(t *testing.T) {
	for _, l := range sampleLists() {
		for _, level := range sampleLevels() {
			if got := Classes(l, level); !equal(got, classed(l, level)) {
				t.Errorf("Classes of %v at %d: %v", l, level, got)
			}
			for _, w := range []uint32{0, 1, 2, 6, 1 << 15, 1 << 16, 1<<16 - 1, math.MaxUint32} {
				if got := Group(l, level, w); !slices.Equal(got, grouped(l, level, w)) {
					t.Errorf("Group of %v at %d of %d: %v", l, level, w, got)
				}
			}
		}
	}
}

func TestP4_3ClassesAreGroupsThatBecomeFiner(t *testing.T) {
	for _, l := range sampleLists() {
		for level := -1; level <= api.MaxLevels; level++ {
			for _, c := range Classes(l, level) {
				if !slices.Equal(c, Group(l, level, c[0].Word)) {
					t.Errorf("the class %v of %v at %d is not its group", c, l, level)
				}
				halves := Classes(c, level+1)
				for _, half := range halves {
					if slices.ContainsFunc(half, func(x api.Node) bool { return Bit(x.Word, level) != Bit(half[0].Word, level) }) {
						t.Errorf("the class %v at %d has both bits", half, level+1)
					}
				}
				if len(halves) > 2 {
					t.Errorf("the class %v at %d becomes %v", c, level, halves)
				}
			}
		}
	}
}

func TestP4_3AllWords(t *testing.T) {
	var l []api.Node
	for i := range 2 << api.MaxLevels {
		// An odd factor permutes the words, so that they come in no simple order.
		l = append(l, api.Node{ID: i, Word: uint32(i) * 40503})
	}
	for level := range api.MaxLevels + 1 {
		got := Classes(l, level)
		if len(got) != 1<<level {
			t.Errorf("%d classes at %d", len(got), level)
		}
		for i, c := range got {
			// The words of the first 2^level nodes differ in their lowest bits, so the class of the node i has the number i.
			if len(c) != len(l)>>level || c[0] != l[i] || c[1] != l[i+1<<level] {
				t.Errorf("the class %d at %d", i, level)
			}
		}
	}
}

func TestP4_3ArgumentsStayAsTheyAre(t *testing.T) {
	spare := api.Node{ID: 99, Key: "spare", Word: 1}
	for _, l := range sampleLists() {
		whole := append(slices.Clone(l), spare, spare, spare)
		before := slices.Clone(whole)
		given := whole[:len(l)]
		for level := -1; level <= api.MaxLevels+1; level++ {
			for _, c := range append(Classes(given, level), Group(given, level, 1), Group(given, level, 0)) {
				clear(c[:cap(c)])
			}
			if !slices.Equal(whole, before) {
				t.Fatalf("Classes or Group at %d changes its argument, or shares its memory: %v", level, whole)
			}
		}
	}
}

func TestP4_3ResultsShareNoMemory(t *testing.T) {
	for _, l := range sampleLists() {
		for level := -1; level <= api.MaxLevels; level++ {
			classes, again, group := Classes(l, level), Classes(l, level), Group(l, level, 1)
			for i := range classes {
				clear(classes[i][:cap(classes[i])])
				if !equal(classes[i+1:], again[i+1:]) {
					t.Fatalf("the classes of %v at %d share memory", l, level)
				}
			}
			clear(classes[:cap(classes)])
			if !equal(again, classed(l, level)) || !slices.Equal(group, grouped(l, level, 1)) {
				t.Fatalf("the results of two calls with %v at %d share memory", l, level)
			}
		}
	}
}

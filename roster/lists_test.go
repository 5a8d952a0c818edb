package roster

import (
	"math"
	"slices"
	"testing"

	"skipgraph/api"
)

// before reports whether a has the lesser Key, or an equal one and the lesser ID.
func before(a, b api.Node) bool { return a.Key < b.Key || a.Key == b.Key && a.ID < b.ID }

// sorted takes the first of the least nodes away until none is left.
func sorted(l []api.Node) []api.Node {
	left := slices.Clone(l)
	var out []api.Node
	for len(left) > 0 {
		least := 0
		for i, x := range left {
			if before(x, left[least]) {
				least = i
			}
		}
		out = append(out, left[least])
		left = slices.Delete(left, least, least+1)
	}
	return out
}

// shortLists returns all lists of at most n of the nodes with few numbers and keys; the Word of each tells its place.
func shortLists(n int) [][]api.Node {
	out := [][]api.Node{nil}
	longer := out
	for place := range n {
		var next [][]api.Node
		for _, l := range longer {
			for _, id := range []int{-1, 0, 3} {
				for _, key := range []string{"", "a", "b"} {
					next = append(next, append(slices.Clone(l), node(id, key, uint32(place))))
				}
			}
		}
		out = append(out, next...)
		longer = next
	}
	return out
}

func TestP5_2Sort(t *testing.T) {
	l := nodes(node(5, "m", 1), node(2, "c", 2), node(9, "c", 3), node(0, "", 4), node(2, "c", 5))
	if got := Sort(l); !slices.Equal(got, nodes(l[3], l[1], l[4], l[2], l[0])) {
		t.Errorf("Sort(%v) = %v", l, got)
	}
	if len(Sort(nil)) > 0 || len(Sort(nodes())) > 0 {
		t.Error("Sort of no nodes has some")
	}
	// Keys are compared bytewise, numbers as numbers, also where no roster has them.
	ascending := nodes(
		node(math.MinInt, "", 0), node(-1, "", 0), node(0, "", 0), node(2, "", 0), node(10, "", 0), node(math.MaxInt32, "", 0), node(1<<31, "", 0), node(math.MaxInt, "", 0),
		node(9, "\x00", 0), node(8, "A", 0), node(8, "B", 1<<31), node(7, "a", 0), node(6, "a\x00", 0), node(5, "aa", 0), node(4, "b", 1), node(3, longest, 0), node(2, tooLong, 0),
		node(1, "\u20ac", 0), node(0, "\xff", 0), node(-1, greatest, 0), node(-2, greatest+"\x00", 0),
	)
	for i := range ascending {
		turned := append(slices.Clone(ascending[i:]), ascending[:i]...)
		for _, l := range [][]api.Node{turned, reversed(turned)} {
			if got := Sort(l); !slices.Equal(got, ascending) {
				t.Errorf("Sort(%v) = %v", l, got)
			}
		}
	}
}

func TestP5_2SortKeepsTheOrderOfEqualNodes(t *testing.T) {
	for _, n := range []int{2, 12, 13, 21, 64, 65, 300, 1000} {
		var l []api.Node
		for i := range n {
			// The words count down, so that an order by words would show.
			l = append(l, node(i*7%3, []string{"b", "a"}[i*5%2], uint32(n-i)))
		}
		if got := Sort(l); !slices.Equal(got, sorted(l)) {
			t.Errorf("Sort of %d nodes: %v", n, got)
		}
	}
}

func TestP5_2FindFindsTheFirst(t *testing.T) {
	l := nodes(node(5, "m", 1), node(2, "c", 2), node(9, "c", 3), node(0, "", 4), node(2, "a", 5), node(-3, tooLong, 1<<16), node(math.MaxInt, "x", 0), node(math.MinInt, "y", 0))
	for id, place := range map[int]int{5: 0, 2: 1, 9: 2, 0: 3, -3: 5, math.MaxInt: 6, math.MinInt: 7} {
		if x, ok := Find(l, id); !ok || x != l[place] {
			t.Errorf("Find(%d) = %v, %t", id, x, ok)
		}
	}
	for _, id := range []int{1, 3, 7, -2, math.MaxInt - 1, math.MaxInt32, 1<<32 + 2} {
		if x, ok := Find(l, id); ok || x != (api.Node{}) {
			t.Errorf("Find(%d) = %v, %t", id, x, ok)
		}
	}
	for _, empty := range [][]api.Node{nil, {}} {
		for _, id := range []int{0, 1} {
			if x, ok := Find(empty, id); ok || x != (api.Node{}) {
				t.Errorf("Find of %d among no nodes = %v, %t", id, x, ok)
			}
		}
	}
	// The zero Node is found like others: then the second result is true.
	if x, ok := Find(nodes(api.Node{}), 0); !ok || x != (api.Node{}) {
		t.Errorf("Find of the zero Node = %v, %t", x, ok)
	}
}

func TestP5_2Without(t *testing.T) {
	l := nodes(node(5, "m", 1), node(2, "c", 2), node(9, "c", 3), node(0, "", 4), node(2, "a", 5), node(-3, tooLong, 1<<16))
	for _, x := range []struct {
		ids  []int
		want []api.Node
	}{
		{nil, l}, {[]int{}, l}, {[]int{77}, l}, {[]int{1, -2, math.MaxInt, math.MinInt, 1<<32 + 5}, l},
		{[]int{2}, nodes(l[0], l[2], l[3], l[5])}, {[]int{2, 2}, nodes(l[0], l[2], l[3], l[5])}, {[]int{2, 77, 5}, nodes(l[2], l[3], l[5])}, {[]int{5, 2, 5, 2}, nodes(l[2], l[3], l[5])},
		{[]int{0}, nodes(l[0], l[1], l[2], l[4], l[5])}, {[]int{-3}, l[:5]}, {[]int{5}, l[1:]}, {[]int{-3, 0, 2, 5, 9}, nil}, {[]int{9, 5, 2, 0, -3, 4, 9, 9}, nil},
	} {
		if got := Without(l, x.ids); !slices.Equal(got, x.want) {
			t.Errorf("Without(%v) = %v", x.ids, got)
		}
	}
	for _, empty := range [][]api.Node{nil, {}} {
		for _, ids := range [][]int{nil, {}, {0}, {1, 2}} {
			if got := Without(empty, ids); len(got) > 0 {
				t.Errorf("Without(%v) of no nodes = %v", ids, got)
			}
		}
	}
	// Lists of more than MaxNodes nodes and ids are lists too.
	long := many(500)
	var odd []int
	for i := 1; i < len(long); i += 2 {
		odd = append(odd, long[i].ID, long[i].ID)
	}
	got := Without(long, odd)
	if len(got) != len(long)/2 {
		t.Fatalf("%d of %d nodes are left", len(got), len(long))
	}
	for i, x := range got {
		if x != long[2*i] {
			t.Errorf("the node %d is %v", i, x)
		}
	}
}

func TestP5_2AllShortLists(t *testing.T) {
	for _, l := range shortLists(4) {
		if got := Sort(l); !slices.Equal(got, sorted(l)) {
			t.Errorf("Sort(%v) = %v", l, got)
		}
		for _, id := range []int{-1, 0, 1, 3} {
			has := func(x api.Node) bool { return x.ID == id }
			rest := slices.DeleteFunc(slices.Clone(l), has)
			if got := Without(l, []int{id}); !slices.Equal(got, rest) {
				t.Errorf("Without(%v, %d) = %v", l, id, got)
			}
			want, found := api.Node{}, len(rest) < len(l)
			if found {
				want = l[slices.IndexFunc(l, has)]
			}
			if got, ok := Find(l, id); got != want || ok != found {
				t.Errorf("Find(%v, %d) = %v, %t", l, id, got, ok)
			}
		}
	}
}

package roster

import (
	"math"
	"slices"
	"strconv"
	"strings"
	"testing"

	"skipgraph/api"
)

var (
	longest  = strings.Repeat("k", api.MaxKey)
	tooLong  = longest + "k"
	greatest = strings.Repeat("\xff", api.MaxKey)
)

func node(id int, key string, word uint32) api.Node { return api.Node{ID: id, Key: key, Word: word} }

func nodes(l ...api.Node) []api.Node { return l }

// many returns a list of n valid nodes with different numbers and keys, in no simple order.
func many(n int) []api.Node {
	var out []api.Node
	for i := range n {
		out = append(out, node(1000-i, "k"+strconv.Itoa(i*37%101), uint32(i%4)))
	}
	return out
}

func reversed[T any](l []T) []T {
	out := slices.Clone(l)
	slices.Reverse(out)
	return out
}

// with returns l with x in the place i.
func with(l []api.Node, i int, x api.Node) []api.Node {
	out := slices.Clone(l)
	out[i] = x
	return out
}

func wantCheck(t *testing.T, l []api.Node, want api.Errno) {
	t.Helper()
	if got := Check(l); got != want {
		t.Errorf("Check(%v) = %d, not %d", l, got, want)
	}
}

func TestP5_1Lengths(t *testing.T) {
	wantCheck(t, nil, api.OK)
	wantCheck(t, nodes(), api.OK)
	for n := range api.MaxNodes + 1 {
		wantCheck(t, many(n), api.OK)
		wantCheck(t, reversed(many(n)), api.OK)
	}
	for _, n := range []int{api.MaxNodes + 1, api.MaxNodes + 2, 2 * api.MaxNodes, 100} {
		wantCheck(t, many(n), api.ErrLimit)
	}
}

func TestP5_1OneNode(t *testing.T) {
	for _, x := range []struct {
		node api.Node
		want api.Errno
	}{
		{node(1, "", 0), api.OK}, {node(1, "a", 0), api.OK}, {node(2, "a", 5), api.OK}, {node(math.MaxInt32, greatest, 1<<16-1), api.OK},
		{api.Node{}, api.ErrInvalid},
		{node(0, "a", 0), api.ErrInvalid}, {node(-1, "a", 0), api.ErrInvalid}, {node(math.MinInt32, "a", 0), api.ErrInvalid}, {node(math.MinInt, "a", 0), api.ErrInvalid},
		{node(1<<31-2, "a", 0), api.OK}, {node(1<<31-1, "a", 0), api.OK}, {node(1<<31, "a", 0), api.ErrInvalid}, {node(1<<31+1, "a", 0), api.ErrInvalid},
		// The lowest 32 bits of these are those of valid numbers.
		{node(1<<32+1, "a", 0), api.ErrInvalid}, {node(math.MinInt+1, "a", 0), api.ErrInvalid}, {node(math.MaxInt, "a", 0), api.ErrInvalid},
		{node(1, longest, 0), api.OK}, {node(1, "\x00", 0), api.OK}, {node(1, "\xff", 0), api.OK},
		{node(1, tooLong, 0), api.ErrInvalid}, {node(1, strings.Repeat("k", 1000), 0), api.ErrInvalid},
		// Keys are measured in bytes: 22 runes of 3 bytes are too long, 21 are not.
		{node(1, strings.Repeat("\u20ac", 21), 0), api.OK}, {node(1, strings.Repeat("\u20ac", 22), 0), api.ErrInvalid},
		{node(1, "a", 1<<15), api.OK}, {node(1, "a", 1<<16-1), api.OK}, {node(1, "a", 1<<16), api.ErrInvalid}, {node(1, "a", 1<<16+1), api.ErrInvalid},
		{node(1, "a", 1<<31), api.ErrInvalid}, {node(1, "a", math.MaxUint32), api.ErrInvalid},
	} {
		wantCheck(t, nodes(x.node), x.want)
	}
	for i := range 32 {
		want := api.OK
		if i >= api.MaxLevels {
			want = api.ErrInvalid
		}
		wantCheck(t, nodes(node(1, "a", 1<<i)), want)
	}
}

func TestP5_1InvalidNodeInAnyPlace(t *testing.T) {
	full := many(api.MaxNodes)
	for i, x := range full {
		for _, bad := range nodes(node(0, x.Key, x.Word), node(-x.ID, x.Key, x.Word), node(1<<31, x.Key, x.Word), node(x.ID, tooLong, x.Word), node(x.ID, x.Key, 1<<16)) {
			wantCheck(t, with(full, i, bad), api.ErrInvalid)
		}
	}
}

func TestP5_1DuplicatesInAllPlaces(t *testing.T) {
	full := many(api.MaxNodes)
	for i, x := range full {
		for k := range full {
			if i == k {
				continue
			}
			fresh := node(5000, "fresh", 9)
			wantCheck(t, with(full, k, fresh), api.OK)
			wantCheck(t, with(full, k, node(x.ID, fresh.Key, 9)), api.ErrDuplicate)
			wantCheck(t, with(full, k, node(fresh.ID, x.Key, 9)), api.ErrDuplicate)
			wantCheck(t, with(full, k, x), api.ErrDuplicate)
		}
	}
}

func TestP5_1Duplicates(t *testing.T) {
	for _, x := range []struct {
		l    []api.Node
		want api.Errno
	}{
		{nodes(node(1, "a", 0), node(1, "b", 0)), api.ErrDuplicate}, {nodes(node(1, "a", 0), node(2, "a", 0)), api.ErrDuplicate},
		{nodes(node(1, "a", 0), node(1, "a", 0)), api.ErrDuplicate}, {nodes(node(1, "a", 0), node(1, "a", 1)), api.ErrDuplicate},
		{nodes(node(1, "", 0), node(2, "", 1)), api.ErrDuplicate}, {nodes(node(1, longest, 0), node(2, longest, 0)), api.ErrDuplicate},
		{nodes(node(math.MaxInt32, "a", 0), node(1, "b", 0), node(math.MaxInt32, "c", 0)), api.ErrDuplicate},
		{nodes(node(1, "a", 0), node(2, "b", 0), node(3, "a", 0)), api.ErrDuplicate},
		// Equal words are no duplicates, and keys are equal only as wholes.
		{nodes(node(1, "a", 7), node(2, "b", 7)), api.OK}, {nodes(node(2, "b", 0), node(1, "a", 0)), api.OK},
		{nodes(node(1, "", 0), node(2, "\x00", 0), node(3, "a", 0), node(4, "a\x00", 0), node(5, "A", 0), node(6, "aa", 0)), api.OK},
		{nodes(node(1, longest, 0), node(2, longest[1:], 0), node(3, "j"+longest[1:], 0)), api.OK},
	} {
		wantCheck(t, x.l, x.want)
		wantCheck(t, reversed(x.l), x.want)
	}
}

func TestP5_1FirstError(t *testing.T) {
	full := many(api.MaxNodes)
	same := nodes(node(1, "a", 0), node(1, "a", 0))
	zeros := make([]api.Node, api.MaxNodes+1)
	for _, x := range []struct {
		l    []api.Node
		want api.Errno
	}{
		// Too many nodes come before anything that is wrong with one or two of them.
		{zeros, api.ErrLimit}, {append(nodes(api.Node{}), full...), api.ErrLimit}, {append(slices.Clone(full), api.Node{}), api.ErrLimit},
		{append(slices.Clone(full), full[0]), api.ErrLimit}, {append(slices.Clone(full), node(1, tooLong, 1<<16)), api.ErrLimit},
		// Invalid nodes come before duplicates, wherever they are.
		{zeros[:api.MaxNodes], api.ErrInvalid}, {zeros[:2], api.ErrInvalid},
		{append(slices.Clone(same), node(0, "z", 0)), api.ErrInvalid}, {append(nodes(node(0, "z", 0)), same...), api.ErrInvalid},
		{append(slices.Clone(same), node(9, tooLong, 0)), api.ErrInvalid}, {append(slices.Clone(same), node(9, "z", 1<<16)), api.ErrInvalid},
		{append(slices.Clone(full[1:]), node(full[5].ID, full[5].Key, 1<<16)), api.ErrInvalid},
		{nodes(node(1, tooLong, 0), node(2, tooLong, 0)), api.ErrInvalid}, {nodes(node(-1, "a", 0), node(-1, "b", 0)), api.ErrInvalid},
	} {
		wantCheck(t, x.l, x.want)
	}
}

// sampleLists returns lists that are rosters, in ascending and in other orders, and lists that are none.
func sampleLists() [][]api.Node {
	full := many(api.MaxNodes)
	return [][]api.Node{
		nil, nodes(), nodes(node(1, "", 0)), nodes(node(7, "m", 3)), nodes(node(1, "m", 0), node(2, "c", 0)), nodes(node(1, "c", 0), node(2, "m", 0), node(3, "x", 0)),
		full, reversed(full), Sort(full), many(api.MaxNodes + 1), many(100), make([]api.Node, 70),
		nodes(api.Node{}), nodes(api.Node{}, api.Node{}), nodes(node(5, "m", 1), node(2, "c", 2), node(9, "c", 3), node(0, "", 4), node(2, "c", 5)),
		nodes(node(1, tooLong, 0), node(1, longest, 1<<16), node(-1, tooLong, 1<<31), node(math.MaxInt, "", 1), node(math.MinInt, "", 2)), append(full, full...),
	}
}

func TestArgumentsStayAsTheyAre(t *testing.T) {
	spare := node(99, "spare", 1)
	for _, l := range sampleLists() {
		whole := append(slices.Clone(l), spare, spare, spare)
		before := slices.Clone(whole)
		given := whole[:len(l)]
		ids := []int{1, 2, 1, 99, 98, 97}
		Check(given)
		Find(given, 1)
		Owner(given, "c")
		Interval(given, 2)
		Rank(given, 2)
		for _, out := range [][]api.Node{Sort(given), Without(given, nil), Without(given, ids[:0]), Without(given, ids[:4])} {
			if !slices.Equal(whole, before) || !slices.Equal(ids, []int{1, 2, 1, 99, 98, 97}) {
				t.Fatalf("an argument is changed: %v, %v", whole, ids)
			}
			clear(out[:cap(out)])
			if !slices.Equal(whole, before) {
				t.Fatalf("a result shares memory with an argument: %v", whole)
			}
		}
	}
}

func TestResultsShareNoMemory(t *testing.T) {
	for _, l := range sampleLists() {
		for _, f := range []func() []api.Node{func() []api.Node { return Sort(l) }, func() []api.Node { return Without(l, nil) }, func() []api.Node { return Without(l, []int{2}) }} {
			first, second := f(), f()
			before := slices.Clone(second)
			clear(first[:cap(first)])
			if !slices.Equal(second, before) || !slices.Equal(f(), before) {
				t.Fatalf("the results of two calls with %v share memory", l)
			}
		}
	}
}

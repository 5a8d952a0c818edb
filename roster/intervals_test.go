package roster

import (
	"math"
	"slices"
	"testing"

	"skipgraph/api"
	"skipgraph/keyspace"
)

var top = api.Bound{Top: true}

func span(lo, hi string) api.Range { return api.Range{Lo: api.Bound{Key: lo}, Hi: api.Bound{Key: hi}} }

func from(lo string) api.Range { return api.Range{Lo: api.Bound{Key: lo}, Hi: top} }

func wantOwner(t *testing.T, l []api.Node, key string, want int) {
	t.Helper()
	if x, ok := Owner(l, key); !ok || x.ID != want || !slices.Contains(l, x) {
		t.Errorf("Owner(%v, %#v) = %v, %t, not %d", l, key, x, ok, want)
	}
}

func wantPlace(t *testing.T, l []api.Node, id int, interval api.Range, rank int) {
	t.Helper()
	if r, ok := Interval(l, id); !ok || r != interval {
		t.Errorf("Interval(%v, %d) = %v, %t, not %v", l, id, r, ok, interval)
	}
	if n, ok := Rank(l, id); !ok || n != rank {
		t.Errorf("Rank(%v, %d) = %d, %t, not %d", l, id, n, ok, rank)
	}
}

func wantNoOwner(t *testing.T, l []api.Node, key string) {
	t.Helper()
	if x, ok := Owner(l, key); ok || x != (api.Node{}) {
		t.Errorf("Owner(%v, %#v) = %v, %t", l, key, x, ok)
	}
}

func wantNoPlace(t *testing.T, l []api.Node, id int) {
	t.Helper()
	if r, ok := Interval(l, id); ok || r != (api.Range{}) {
		t.Errorf("Interval(%v, %d) = %v, %t", l, id, r, ok)
	}
	if n, ok := Rank(l, id); ok || n != 0 {
		t.Errorf("Rank(%v, %d) = %d, %t", l, id, n, ok)
	}
}

func TestP5_3Owner(t *testing.T) {
	l := nodes(node(1, "m", 1), node(2, "c", 2), node(3, "x", 3))
	for _, l := range [][]api.Node{l, reversed(l), Sort(l)} {
		for key, want := range map[string]int{
			"": 2, "\x00": 2, "a": 2, "bzz": 2, "c": 2, "c\x00": 2, "d": 2, "l\xff": 2, "m": 1, "m\x00": 1, "n": 1, "w\xff": 1, "x": 3, "xx": 3, "y": 3, longest: 2, "\xff": 3, greatest: 3,
		} {
			wantOwner(t, l, key, want)
		}
	}
	// A key that is less than all Keys belongs to the first node (example 1 of the chapter).
	wantOwner(t, nodes(node(1, "m", 0), node(2, "c", 0)), "a", 2)
	// A single node owns all keys, whatever its own one is.
	for _, key := range []string{"", "m", greatest} {
		for _, asked := range []string{"", "a", "m", "z", longest, greatest} {
			wantOwner(t, nodes(node(7, key, 0)), asked, 7)
		}
	}
	// The empty Key is not greater than any.
	wantOwner(t, nodes(node(4, "\x00", 0), node(5, "", 0)), "", 5)
	wantOwner(t, nodes(node(4, "\x00", 0), node(5, "", 0)), "\x00", 4)
}

func TestP5_3IntervalAndRank(t *testing.T) {
	l := nodes(node(1, "m", 1), node(2, "c", 2), node(3, "x", 3))
	for _, l := range [][]api.Node{l, reversed(l), Sort(l)} {
		wantPlace(t, l, 2, span("", "m"), 0)
		wantPlace(t, l, 1, span("m", "x"), 1)
		wantPlace(t, l, 3, from("x"), 2)
	}
	// Example 1 of the chapter.
	wantPlace(t, nodes(node(1, "m", 0), node(2, "c", 0)), 2, span("", "m"), 0)
	wantPlace(t, nodes(node(1, "m", 0), node(2, "c", 0)), 1, from("m"), 1)
	for _, key := range []string{"", "m", longest, greatest} {
		wantPlace(t, nodes(node(7, key, 0)), 7, from(""), 0)
	}
	wantPlace(t, nodes(node(math.MaxInt32, greatest, 0), node(1, "", 0)), 1, span("", greatest), 0)
	wantPlace(t, nodes(node(math.MaxInt32, greatest, 0), node(1, "", 0)), math.MaxInt32, from(greatest), 1)
	// Keys decide, not numbers or words.
	wantPlace(t, nodes(node(9, "a", 9), node(8, "b", 8), node(7, "c", 7)), 8, span("b", "c"), 1)
}

func TestP5_3NoSuchNode(t *testing.T) {
	l := nodes(node(1, "m", 1), node(2, "c", 2), node(3, "x", 3))
	for _, id := range []int{0, -1, -2, 4, math.MaxInt32, 1 << 31, 1<<32 + 1, math.MaxInt, math.MinInt} {
		wantNoPlace(t, l, id)
		wantNoPlace(t, l[:1], id)
		wantNoPlace(t, nil, id)
		wantNoPlace(t, nodes(), id)
	}
}

func TestP5_3NoRoster(t *testing.T) {
	l := nodes(node(1, "m", 1), node(2, "c", 2), node(3, "x", 3))
	bad := [][]api.Node{
		many(api.MaxNodes + 1), nodes(api.Node{}),
		append(slices.Clone(l), node(0, "z", 0)), append(slices.Clone(l), node(-1, "z", 0)), append(slices.Clone(l), node(1<<31, "z", 0)),
		append(slices.Clone(l), node(4, tooLong, 0)), append(slices.Clone(l), node(4, "z", 1<<16)),
		append(slices.Clone(l), l[0]), append(slices.Clone(l), node(1, "z", 0)), append(slices.Clone(l), node(4, "m", 0)), append(nodes(node(0, "a", 0)), l...),
	}
	for _, l := range bad {
		for _, key := range []string{"", "a", "c", "m", "z", greatest, tooLong} {
			wantNoOwner(t, l, key)
		}
		for _, x := range l {
			wantNoPlace(t, l, x.ID)
		}
		wantNoPlace(t, l, 77)
	}
	for _, empty := range [][]api.Node{nil, {}} {
		for _, key := range []string{"", "a", tooLong} {
			wantNoOwner(t, empty, key)
		}
	}
}

func TestP5_3KeyThatIsNotValid(t *testing.T) {
	for _, l := range [][]api.Node{nodes(node(1, "m", 0)), nodes(node(1, longest, 0), node(2, "a", 0)), many(api.MaxNodes)} {
		for _, key := range []string{tooLong, greatest + "\x00", string(make([]byte, api.MaxKey+1))} {
			wantNoOwner(t, l, key)
			if _, ok := Owner(l, key[:api.MaxKey]); !ok {
				t.Errorf("no Owner of %#v", key[:api.MaxKey])
			}
		}
	}
}

// owner looks for the owner as P5.3 describes it.
func owner(l []api.Node, key string) api.Node {
	var least, best api.Node
	for _, x := range l {
		if least.ID == 0 || x.Key < least.Key {
			least = x
		}
		if x.Key <= key && (best.ID == 0 || x.Key > best.Key) {
			best = x
		}
	}
	if best.ID == 0 {
		return least
	}
	return best
}

// place counts the lesser Keys and looks for the bounds as P5.3 describes them.
func place(l []api.Node, x api.Node) (api.Range, int) {
	r, rank := from(""), 0
	for _, y := range l {
		if y.Key < x.Key {
			rank++
			r.Lo.Key = x.Key
		}
		if y.Key > x.Key && (r.Hi.Top || y.Key < r.Hi.Key) {
			r.Hi = api.Bound{Key: y.Key}
		}
	}
	return r, rank
}

// around returns the keys, those directly below and above them, and some others.
func around(keys []string) []string {
	out := []string{"", "\x00", "k", longest, greatest}
	for _, k := range keys {
		out = append(out, k, k+"\x00", k+"\xff")
		if k != "" {
			out = append(out, k[:len(k)-1], k[:len(k)-1]+string([]byte{k[len(k)-1] - 1, 255}))
		}
	}
	return slices.DeleteFunc(out, func(k string) bool { return !keyspace.ValidKey(k) })
}

// sampleRosters returns a roster for each set of some keys, in several orders, and rosters of many nodes.
func sampleRosters() [][]api.Node {
	keys := []string{"m", "", "a\x00", longest, "a", greatest, "\x00"}
	out := [][]api.Node{many(api.MaxNodes - 1), many(api.MaxNodes)}
	for set := range 1 << len(keys) {
		var l []api.Node
		for i, k := range keys {
			if set>>i&1 == 1 {
				l = append(l, node(100-i*i, k, uint32(i)))
			}
		}
		out = append(out, l, reversed(l), Sort(l), reversed(Sort(l)))
	}
	return out
}

func TestP5_3AllSampleRosters(t *testing.T) {
	for _, l := range sampleRosters() {
		var keys []string
		for _, x := range l {
			keys = append(keys, x.Key)
			interval, rank := place(l, x)
			wantPlace(t, l, x.ID, interval, rank)
		}
		for _, key := range around(keys) {
			if len(l) == 0 {
				wantNoOwner(t, l, key)
			} else {
				wantOwner(t, l, key, owner(l, key).ID)
			}
		}
	}
}

func TestP5_3IntervalsTileTheKeySpace(t *testing.T) {
	for _, l := range sampleRosters() {
		if len(l) == 0 {
			continue
		}
		tiles := make([]api.Range, len(l))
		var keys []string
		for i, x := range Sort(l) {
			r, ok := Interval(l, x.ID)
			n, found := Rank(l, x.ID)
			if !ok || !found || n != i {
				t.Fatalf("Interval and Rank of %v in %v: %v, %d", x, l, r, n)
			}
			tiles[n] = r
			keys = append(keys, x.Key)
		}
		if n, err := keyspace.Tiles(tiles, from("")); n != len(l) || err != api.OK {
			t.Errorf("the intervals %v of %v do not tile the key space: %d, %d", tiles, l, n, err)
		}
		for _, key := range around(keys) {
			x, _ := Owner(l, key)
			for i, y := range Sort(l) {
				if keyspace.Contains(tiles[i], key) != (x == y) {
					t.Errorf("the owner of %#v in %v is %v, and the interval of %v is %v", key, l, x, y, tiles[i])
				}
			}
		}
	}
}

func TestP5_3TheLeftNeighbourInherits(t *testing.T) {
	full := many(api.MaxNodes)
	for i, x := range full {
		rest := Without(full, []int{x.ID})
		wantNoPlace(t, rest, x.ID)
		heir, _ := Owner(rest, x.Key)
		n, _ := Rank(full, x.ID)
		m, _ := Rank(rest, heir.ID)
		// Only the first node has no left neighbour: its right one inherits.
		if m != max(n-1, 0) {
			t.Errorf("the node %d with the rank %d is followed by the owner with the rank %d", i, n, m)
		}
	}
}

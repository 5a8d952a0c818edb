package wire

import (
	"bytes"
	"math"
	"slices"
	"strings"
	"testing"

	"skipgraph/api"
)

var (
	longestKey = strings.Repeat("k", api.MaxKey)
	tooLongKey = longestKey + "k"
)

// equal compares the links of nodes as R8 says.
func equal(a, b []api.Linked) bool {
	return slices.EqualFunc(a, b, func(x, y api.Linked) bool { return x.ID == y.ID && slices.Equal(x.Levels, y.Levels) })
}

func nodes(l ...api.Node) []api.Node { return l }

func linked(l ...api.Linked) []api.Linked { return l }

// mixedNodes returns nodes with small and great fields of all kinds, which are no roster.
func mixedNodes() []api.Node {
	return nodes(api.Node{ID: 1, Key: "ab", Word: 300}, api.Node{}, api.Node{}, api.Node{ID: -1, Key: "\x00\xff", Word: math.MaxUint32},
		api.Node{ID: math.MaxInt, Key: longestKey, Word: 1 << 31}, api.Node{ID: math.MinInt, Key: "\u20ac", Word: 127}, api.Node{ID: 1, Key: "ab", Word: 128})
}

// mixedLinks returns links with small and great numbers, and elements with no and with all levels.
func mixedLinks() []api.Linked {
	all := make([]api.Link, api.MaxLevels+1)
	for i := range all {
		all[i] = api.Link{Left: 1 << (3 * i), Right: -1 << (3 * i)}
	}
	return linked(api.Linked{ID: 1, Levels: []api.Link{{Left: -1, Right: 2}, {}}}, api.Linked{}, api.Linked{ID: 300, Levels: all}, api.Linked{ID: -64},
		api.Linked{ID: math.MaxInt, Levels: []api.Link{{Left: math.MinInt, Right: math.MaxInt}}}, api.Linked{ID: math.MinInt, Levels: []api.Link{{Left: 64, Right: -65}}}, api.Linked{ID: 1})
}

func TestP3_3EncodeNodes(t *testing.T) {
	for _, x := range []struct {
		l []api.Node
		b []byte
	}{
		{nil, bytesOf(0)}, {nodes(), bytesOf(0)}, {nodes(api.Node{}), bytesOf(1, 0, 0, 0)},
		{nodes(api.Node{ID: 1, Key: "ab", Word: 300}), bytesOf(1, 2, 2, "ab", 172, 2)},
		{nodes(api.Node{ID: -1, Key: "\x00"}, api.Node{ID: 64, Word: math.MaxUint32}), bytesOf(2, 1, 1, 0, 0, 128, 1, 0, many(4, 255), 15)},
		{nodes(api.Node{ID: math.MaxInt, Key: longestKey}, api.Node{ID: math.MinInt}), bytesOf(2, 254, many(8, 255), 1, 64, longestKey, 0, many(9, 255), 1, 0, 0)},
		// The nodes need not be a roster, and are not sorted.
		{nodes(api.Node{ID: 2, Key: "b"}, api.Node{ID: 1, Key: "a"}, api.Node{ID: 2, Key: "b"}), bytesOf(3, 4, 1, "b", 0, 2, 1, "a", 0, 4, 1, "b", 0)},
		{make([]api.Node, api.MaxNodes), bytesOf(64, many(3*64, 0))},
	} {
		if b, err := EncodeNodes(x.l); err != api.OK || !bytes.Equal(b, x.b) {
			t.Errorf("EncodeNodes(%v) = %v, %d", x.l, b, err)
		}
		if l, err := DecodeNodes(x.b); err != api.OK || !slices.Equal(l, x.l) {
			t.Errorf("DecodeNodes(%v) = %v, %d", x.b, l, err)
		}
	}
}

func TestP3_3NodesThatExceedALimit(t *testing.T) {
	long := api.Node{ID: 1, Key: tooLongKey}
	last := append(make([]api.Node, api.MaxNodes-1), long)
	for _, l := range [][]api.Node{make([]api.Node, api.MaxNodes+1), make([]api.Node, 1000), nodes(long), last, append(mixedNodes(), long), slices.Repeat(nodes(long), api.MaxNodes+1)} {
		if b, err := EncodeNodes(l); err != api.ErrLimit || len(b) > 0 {
			t.Errorf("EncodeNodes(%v) = %v, %d", l, b, err)
		}
	}
}

func TestP3_3DecodeNodes(t *testing.T) {
	all := mixedNodes()
	for n := range len(all) + 1 {
		b, err := EncodeNodes(all[:n])
		if l, e := DecodeNodes(b); err != api.OK || e != api.OK || !slices.Equal(l, all[:n]) {
			t.Errorf("%v are decoded as %v, %d", all[:n], l, e)
		}
		for i := range b {
			if l, e := DecodeNodes(b[:i]); e != api.ErrForm || len(l) > 0 {
				t.Errorf("DecodeNodes(%v) = %v, %d", b[:i], l, e)
			}
		}
		for behind := range 256 {
			if l, e := DecodeNodes(bytesOf(b, behind)); e != api.ErrForm || len(l) > 0 {
				t.Errorf("DecodeNodes of %v and a byte %d = %v, %d", b, behind, l, e)
			}
		}
	}
}

func TestP3_3DecodeNodesOfOtherBytes(t *testing.T) {
	for _, b := range append(noNumbers(),
		// Elements that are missing or too many, for the number before them.
		bytesOf(1), bytesOf(2, 0, 0, 0), bytesOf(0, 0, 0, 0), bytesOf(1, many(6, 0)), bytesOf(64, many(3*63, 0)),
		bytesOf(many(9, 255), 1), bytesOf(many(8, 255), 127, 0, 0, 0),
		// MaxNodes nodes and one more.
		bytesOf(65, many(3*65, 0)), bytesOf(128, 1, many(3*128, 0)),
		// A key of MaxKey bytes and one more, a key that ends early, and the greatest length.
		bytesOf(1, 2, 65, tooLongKey, 0), bytesOf(1, 2, 64, longestKey), bytesOf(1, 2, 3, "ab"), bytesOf(1, 2, 3, "ab", 0), bytesOf(1, 2, many(9, 255), 1, "ab", 0),
		// Words of more than 32 bits, which must not be cut.
		bytesOf(1, 2, 0, many(4, 128), 16), bytesOf(1, 2, 0, many(4, 255), 31), bytesOf(1, 2, 0, many(9, 255), 1),
		// Numbers that are not the shortest ones, for the list, the ID, the Key and the Word.
		bytesOf(129, 0, 2, 1, "a", 0), bytesOf(1, 130, 0, 1, "a", 0), bytesOf(1, 2, 129, 0, "a", 0), bytesOf(1, 2, 1, "a", 128, 0), bytesOf(128, 0),
		// An ID of more than 64 bits.
		bytesOf(1, many(9, 255), 3, 0, 0),
	) {
		if l, err := DecodeNodes(b); err != api.ErrForm || len(l) > 0 {
			t.Errorf("DecodeNodes(%v) = %v, %d", b, l, err)
		}
	}
	for _, b := range noNumbers() {
		for _, x := range [][]byte{bytesOf(b, 0, 0, 0), bytesOf(1, b, 0, 0), bytesOf(1, 0, b, 0), bytesOf(1, 0, 0, b)} {
			if l, err := DecodeNodes(x); err != api.ErrForm || len(l) > 0 {
				t.Errorf("DecodeNodes(%v) = %v, %d", x, l, err)
			}
		}
	}
}

func TestP3_4EncodeLinks(t *testing.T) {
	for _, x := range []struct {
		l []api.Linked
		b []byte
	}{
		{nil, bytesOf(0)}, {linked(), bytesOf(0)}, {linked(api.Linked{}), bytesOf(1, 0, 0)}, {linked(api.Linked{Levels: []api.Link{}}), bytesOf(1, 0, 0)},
		{linked(api.Linked{ID: 1, Levels: []api.Link{{Left: -1, Right: 2}, {}}}, api.Linked{ID: 300}), bytesOf(2, 2, 2, 1, 4, 0, 0, 216, 4, 0)},
		{linked(api.Linked{ID: -1, Levels: []api.Link{{Left: 64, Right: -65}}}, api.Linked{ID: -1}), bytesOf(2, 1, 1, 128, 1, 129, 1, 1, 0)},
		{linked(api.Linked{ID: math.MinInt, Levels: []api.Link{{Left: math.MaxInt, Right: math.MinInt}}}), bytesOf(1, many(9, 255), 1, 1, 254, many(8, 255), 1, many(9, 255), 1)},
		{linked(api.Linked{ID: 2, Levels: make([]api.Link, api.MaxLevels+1)}), bytesOf(1, 4, 17, many(34, 0))},
		{make([]api.Linked, api.MaxNodes), bytesOf(64, many(2*64, 0))},
		{slices.Repeat(linked(api.Linked{Levels: make([]api.Link, api.MaxLevels+1)}), api.MaxNodes), bytesOf(64, bytes.Repeat(bytesOf(0, 17, many(34, 0)), 64))},
	} {
		if b, err := EncodeLinks(x.l); err != api.OK || !bytes.Equal(b, x.b) {
			t.Errorf("EncodeLinks(%v) = %v, %d", x.l, b, err)
		}
		if l, err := DecodeLinks(x.b); err != api.OK || !equal(l, x.l) {
			t.Errorf("DecodeLinks(%v) = %v, %d", x.b, l, err)
		}
	}
}

func TestP3_4LinksThatExceedALimit(t *testing.T) {
	high := api.Linked{ID: 1, Levels: make([]api.Link, api.MaxLevels+2)}
	last := append(make([]api.Linked, api.MaxNodes-1), high)
	for _, l := range [][]api.Linked{make([]api.Linked, api.MaxNodes+1), make([]api.Linked, 1000), linked(high), last, append(mixedLinks(), high), slices.Repeat(linked(high), api.MaxNodes+1)} {
		if b, err := EncodeLinks(l); err != api.ErrLimit || len(b) > 0 {
			t.Errorf("EncodeLinks(%v) = %v, %d", l, b, err)
		}
	}
}

func TestP3_4DecodeLinks(t *testing.T) {
	all := mixedLinks()
	for n := range len(all) + 1 {
		b, err := EncodeLinks(all[:n])
		if l, e := DecodeLinks(b); err != api.OK || e != api.OK || !equal(l, all[:n]) {
			t.Errorf("%v are decoded as %v, %d", all[:n], l, e)
		}
		for i := range b {
			if l, e := DecodeLinks(b[:i]); e != api.ErrForm || len(l) > 0 {
				t.Errorf("DecodeLinks(%v) = %v, %d", b[:i], l, e)
			}
		}
		for behind := range 256 {
			if l, e := DecodeLinks(bytesOf(b, behind)); e != api.ErrForm || len(l) > 0 {
				t.Errorf("DecodeLinks of %v and a byte %d = %v, %d", b, behind, l, e)
			}
		}
	}
}

func TestP3_4DecodeLinksOfOtherBytes(t *testing.T) {
	for _, b := range append(noNumbers(),
		// Elements and levels that are missing or too many, for the numbers before them.
		bytesOf(1), bytesOf(2, 0, 0), bytesOf(0, 0, 0), bytesOf(1, many(4, 0)), bytesOf(64, many(2*63, 0)), bytesOf(1, 2, 1), bytesOf(1, 2, 1, 0), bytesOf(1, 2, 1, 0, 0, 0),
		bytesOf(1, 2, 2, 0, 0, 0), bytesOf(many(9, 255), 1), bytesOf(many(8, 255), 127, 0, 0), bytesOf(1, 2, many(9, 255), 1), bytesOf(1, 2, many(8, 255), 127, 0, 0),
		// MaxNodes elements and one more, MaxLevels + 1 levels and one more.
		bytesOf(65, many(2*65, 0)), bytesOf(128, 1, many(2*128, 0)), bytesOf(1, 2, 18, many(36, 0)), bytesOf(1, 2, 128, 1, many(256, 0)),
		// Numbers that are not the shortest ones, for the list, the ID, the levels, Left and Right.
		bytesOf(129, 0, 2, 1, 0, 0), bytesOf(1, 130, 0, 1, 0, 0), bytesOf(1, 2, 129, 0, 0, 0), bytesOf(1, 2, 1, 128, 0, 0), bytesOf(1, 2, 1, 0, 128, 0), bytesOf(1, 2, 128, 0), bytesOf(128, 0),
		// An ID, a Left and a Right of more than 64 bits.
		bytesOf(1, many(9, 255), 3, 0), bytesOf(1, 2, 1, many(9, 255), 3, 0), bytesOf(1, 2, 1, 0, many(9, 255), 3),
	) {
		if l, err := DecodeLinks(b); err != api.ErrForm || len(l) > 0 {
			t.Errorf("DecodeLinks(%v) = %v, %d", b, l, err)
		}
	}
	for _, b := range noNumbers() {
		for _, x := range [][]byte{bytesOf(b, 0, 0), bytesOf(1, b, 0), bytesOf(1, 0, b), bytesOf(1, 0, 1, b, 0), bytesOf(1, 0, 1, 0, b)} {
			if l, err := DecodeLinks(x); err != api.ErrForm || len(l) > 0 {
				t.Errorf("DecodeLinks(%v) = %v, %d", x, l, err)
			}
		}
	}
}

func TestP3_3NodesShareNoMemory(t *testing.T) {
	whole := append(mixedNodes(), api.Node{ID: 9, Key: "spare"})
	arg := whole[:len(whole)-1]
	b, _ := EncodeNodes(arg)
	again, _ := EncodeNodes(arg)
	clear(again[:cap(again)])
	spare := append(bytes.Clone(b), 7, 7)
	one, _ := DecodeNodes(spare[:len(b)])
	two, _ := DecodeNodes(spare[:len(b)])
	clear(one[:cap(one)])
	if !bytes.Equal(spare, bytesOf(b, 7, 7)) || !slices.Equal(whole, append(mixedNodes(), api.Node{ID: 9, Key: "spare"})) {
		t.Error("arguments were changed")
	}
	clear(spare)
	if l, _ := DecodeNodes(b); !slices.Equal(two, mixedNodes()) || !slices.Equal(l, mixedNodes()) {
		t.Error("results share memory")
	}
}

func TestP3_4LinksShareNoMemory(t *testing.T) {
	arg := mixedLinks()
	b, _ := EncodeLinks(arg)
	again, _ := EncodeLinks(arg)
	clear(again[:cap(again)])
	spare := append(bytes.Clone(b), 7, 7)
	one, _ := DecodeLinks(spare[:len(b)])
	two, _ := DecodeLinks(spare[:len(b)])
	for i, x := range one {
		want := len(two[i].Levels)
		_ = append(x.Levels, api.Link{Left: 5, Right: 5})
		clear(x.Levels[:cap(x.Levels)])
		for k, y := range one {
			if k > i && !slices.Equal(y.Levels, two[k].Levels) || len(two[i].Levels) != want {
				t.Errorf("the levels of the elements %d and %d share memory", i, k)
			}
		}
	}
	if !bytes.Equal(spare, bytesOf(b, 7, 7)) || !equal(arg, mixedLinks()) {
		t.Error("arguments were changed")
	}
	clear(spare)
	if l, _ := DecodeLinks(b); !equal(two, mixedLinks()) || !equal(l, mixedLinks()) {
		t.Error("results share memory")
	}
}

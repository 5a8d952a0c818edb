package bulk

import (
	"slices"
	"testing"

	"skipgraph/api"
	"skipgraph/ideal"
	"skipgraph/inspect"
)

// network is nodes with links.
type network struct {
	nodes []api.Node
	links []api.Linked
}

// exactly returns nodes with their exact links.
func exactly(l []api.Node, height int) network { return network{l, exact(l, height)} }

// wantMerge examines Merge for nodes in several orders, and in both orders of the networks.
func wantMerge(t *testing.T, a, b network, height int, want []api.Linked) {
	t.Helper()
	others := orders(b.nodes)
	for i, l := range orders(a.nodes) {
		got, err := Merge(l, a.links, others[i], b.links, height)
		back, backErr := Merge(others[i], b.links, l, a.links, height)
		if err != api.OK || backErr != api.OK || !ideal.Same(got, want) || !ideal.Same(back, want) {
			t.Fatalf("Merge of %v and %v at the height %d is %v, %d, and in the other order %v, %d, not %v", l, others[i], height, got, err, back, backErr, want)
		}
	}
}

// wantNoMerge examines that Merge returns only an error, in both orders of the networks.
func wantNoMerge(t *testing.T, a, b network, height int, want api.Errno) {
	t.Helper()
	for _, x := range [][]network{{a, b}, {b, a}} {
		if got, err := Merge(x[0].nodes, x[0].links, x[1].nodes, x[1].links, height); err != want || len(got) > 0 {
			t.Fatalf("Merge(%v, %v, %v, %v, %d) = %v, %d, not the error %d", x[0].nodes, x[0].links, x[1].nodes, x[1].links, height, got, err, want)
		}
	}
}

// divided returns the nodes of l that belong to a part, by their places, and the others.
func divided(l []api.Node, belongs func(i int) bool) (part, rest []api.Node) {
	for i, x := range l {
		if belongs(i) {
			part = append(part, x)
		} else {
			rest = append(rest, x)
		}
	}
	return part, rest
}

func TestP9_2Merge(t *testing.T) {
	a := network{nodes(node(8, "a", 0), node(5, "c", 2)), linked(element(8, link(0, 5), link(0, 5), link(0, 0)), element(5, link(8, 0), link(8, 0), link(0, 0)))}
	b := network{nodes(node(2, "b", 1), node(1, "d", 3)), linked(element(2, link(0, 1), link(0, 1), link(0, 0)), element(1, link(2, 0), link(2, 0), link(0, 0)))}
	wantMerge(t, a, b, 2, linksOfFour())
	// Beside one another.
	a = network{four()[:2], linked(element(8, link(0, 2), link(0, 0), link(0, 0)), element(2, link(8, 0), link(0, 0), link(0, 0)))}
	b = network{four()[2:], linked(element(5, link(0, 1), link(0, 0), link(0, 0)), element(1, link(5, 0), link(0, 0), link(0, 0)))}
	wantMerge(t, a, b, 2, linksOfFour())
	// Between one another.
	a = network{nodes(four()[0], four()[3]), linked(element(8, link(0, 1), link(0, 0), link(0, 0)), element(1, link(8, 0), link(0, 0), link(0, 0)))}
	b = network{four()[1:3], linked(element(2, link(0, 5), link(0, 0), link(0, 0)), element(5, link(2, 0), link(0, 0), link(0, 0)))}
	wantMerge(t, a, b, 2, linksOfFour())
}

func TestP9_2AllPartsOfShortRosters(t *testing.T) {
	for _, l := range rosters() {
		if len(l) > 8 {
			continue
		}
		for _, height := range heights(l) {
			for parts := range 1 << len(l) {
				a, b := divided(l, func(i int) bool { return parts>>i&1 == 1 })
				wantMerge(t, exactly(a, height), exactly(b, height), height, exact(l, height))
			}
		}
	}
}

func TestP9_2PartsOfMaxNodes(t *testing.T) {
	for _, word := range words {
		l := withWords(api.MaxNodes, word)
		for _, belongs := range []func(i int) bool{
			// One part is empty, has one node, or all but one.
			func(int) bool { return false }, func(i int) bool { return i == 0 }, func(i int) bool { return i == 40 }, func(i int) bool { return i == api.MaxNodes-1 },
			// They lie beside or between one another, or alternate node by node, in runs and in no simple way.
			func(i int) bool { return i < 32 }, func(i int) bool { return i < 20 || i > 50 }, func(i int) bool { return i%2 == 1 }, func(i int) bool { return i/5%2 == 0 }, func(i int) bool { return i*i%7 < 3 },
			// They share no list of level 1, or no word.
			func(i int) bool { return l[i].Word%2 == 1 }, func(i int) bool { return l[i].Word < 1<<15 },
		} {
			a, b := divided(l, belongs)
			for _, height := range heights(l) {
				wantMerge(t, exactly(a, height), exactly(b, height), height, exact(l, height))
			}
		}
	}
}

func TestP9_2OneNetworkIsEmpty(t *testing.T) {
	for height := range api.MaxLevels + 1 {
		wantMerge(t, network{}, network{nodes(), linked()}, height, nil)
		for _, l := range rosters() {
			wantMerge(t, network{}, exactly(l, height), height, exact(l, height))
			wantMerge(t, network{nodes(), linked()}, exactly(l, height), height, exact(l, height))
		}
	}
}

func TestP9_2SameNumberOrKey(t *testing.T) {
	for _, height := range []int{0, 1, api.MaxLevels} {
		for _, l := range rosters()[1:] {
			if len(l) == api.MaxNodes {
				l = l[1:]
			}
			a := exactly(l, height)
			wantNoMerge(t, a, a, height, orLimit(l, l, api.ErrDuplicate))
			for i := 0; i < len(l); i += 1 + len(l)/9 {
				x := l[i]
				for _, y := range nodes(x, node(x.ID, "y", 0), node(500, x.Key, 1)) {
					wantNoMerge(t, a, exactly(nodes(y), height), height, api.ErrDuplicate)
					other := append(nodes(y), node(501, "z", 0))
					wantNoMerge(t, a, exactly(other, height), height, orLimit(l, other, api.ErrDuplicate))
				}
			}
		}
	}
}

// orLimit returns the error that Check has for two lists: the one for their number comes first.
func orLimit(a, b []api.Node, err api.Errno) api.Errno {
	if len(a)+len(b) > api.MaxNodes {
		return api.ErrLimit
	}
	return err
}

func TestP9_2MoreThanMaxNodes(t *testing.T) {
	many := withWords(2*api.MaxNodes-27, words[2])
	most, more := many[:api.MaxNodes], many[api.MaxNodes:]
	for _, height := range []int{0, 3, api.MaxLevels} {
		for n := 1; n <= len(more); n += 9 {
			wantNoMerge(t, exactly(most, height), exactly(more[:n], height), height, api.ErrLimit)
			wantMerge(t, exactly(most[n:], height), exactly(more[:n], height), height, exact(many[n:api.MaxNodes+n], height))
			wantNoMerge(t, exactly(most[n-1:], height), exactly(more[:n], height), height, api.ErrLimit)
		}
		// It does not matter then that there are the same numbers.
		wantNoMerge(t, exactly(most, height), exactly(most, height), height, api.ErrLimit)
		wantNoMerge(t, exactly(most, height), exactly(most[:1], height), height, api.ErrLimit)
	}
}

// With a defect of each kind, links are not exact.
func TestP9_2Defects(t *testing.T) {
	other := exactly(nodes(node(3, "bb", 2)), 1)
	for _, x := range []struct {
		kind, place, level int
		have               api.Link
	}{
		{api.DefectMissing, 0, 0, link(0, 0)}, {api.DefectMissing, 2, 1, link(0, 0)}, {api.DefectDangling, 0, 0, link(3, 2)}, {api.DefectDangling, 2, 1, link(8, -1)},
		{api.DefectSide, 1, 0, link(8, 2)}, {api.DefectSide, 3, 0, link(5, 8)}, {api.DefectSide, 0, 1, link(5, 5)}, {api.DefectGroup, 0, 1, link(0, 2)}, {api.DefectGroup, 3, 1, link(5, 0)},
		{api.DefectSkips, 0, 0, link(0, 5)}, {api.DefectSkips, 3, 0, link(2, 0)},
	} {
		a := exactly(four(), 1)
		a.links[x.place].Levels[x.level] = x.have
		if d := inspect.Check(a.nodes, a.links, 1); len(d) != 1 || d[0].Kind != x.kind {
			t.Fatalf("the links %v have the defects %v, not one of the kind %d", a.links, d, x.kind)
		}
		wantNoMerge(t, a, other, 1, api.ErrInvalid)
		wantNoMerge(t, a, network{}, 1, api.ErrInvalid)
		wantNoMerge(t, a, a, 1, api.ErrInvalid)
	}
}

// inexact returns links of l that are not exact.
func inexact(l []api.Node, height int) [][]api.Linked {
	none := make([]api.Link, height+1)
	out := [][]api.Linked{append(exact(l, height), element(600, none...)), append(linked(element(0)), exact(l, height)...)}
	if len(l) == 0 {
		return out
	}
	out = append(out, nil, exact(l[1:], height))
	if height < api.MaxLevels {
		out = append(out, exact(l, height+1))
	}
	if height > 0 {
		out = append(out, exact(l, height-1))
	}
	if len(l) > 1 {
		out = append(out, reversed(exact(l, height)))
	}
	for i := 0; i < len(l); i += 1 + len(l)/4 {
		out = append(out, changesOfOne(l, height, i)...)
	}
	return out
}

// changesOfOne returns links that differ from the exact ones in the element with the index i.
func changesOfOne(l []api.Node, height, i int) [][]api.Linked {
	var out [][]api.Linked
	for _, change := range []func(x *api.Linked){
		func(x *api.Linked) { x.ID = 600 }, func(x *api.Linked) { x.ID += 1 << 32 }, func(x *api.Linked) { x.Levels = nil },
		func(x *api.Linked) { x.Levels = x.Levels[:height] }, func(x *api.Linked) { x.Levels = append(x.Levels, api.Link{}) },
		func(x *api.Linked) { x.Levels[0].Left-- }, func(x *api.Linked) { x.Levels[0].Right = 600 }, func(x *api.Linked) { x.Levels[height].Left += 1 << 32 }, func(x *api.Linked) { x.Levels[height].Right++ },
	} {
		links := exact(l, height)
		change(&links[i])
		out = append(out, links)
	}
	links := exact(l, height)
	// Missing, and twice.
	return append(out, slices.Concat(links[:i], links[i+1:]), slices.Concat(links[:i+1], links[i:]))
}

func TestP9_2LinksThatAreNotExact(t *testing.T) {
	for _, l := range rosters() {
		for _, height := range []int{0, 2, api.MaxLevels} {
			for _, links := range inexact(l, height) {
				if len(l) < api.MaxNodes {
					wantNoMerge(t, network{l, links}, exactly(nodes(node(500, "y", 0)), height), height, api.ErrInvalid)
				}
				wantNoMerge(t, network{reversed(l), links}, network{}, height, api.ErrInvalid)
				// That the nodes have the same numbers, or are too many, does not matter then.
				wantNoMerge(t, network{l, links}, exactly(l, height), height, api.ErrInvalid)
				wantNoMerge(t, network{l, links}, exactly(withWords(api.MaxNodes, words[0]), height), height, api.ErrInvalid)
			}
		}
	}
	// The links of the one are not those of the other.
	a, b := exactly(four()[:2], 1), exactly(four()[2:], 1)
	wantNoMerge(t, network{a.nodes, b.links}, network{b.nodes, a.links}, 1, api.ErrInvalid)
}

func TestP9_2NoRosters(t *testing.T) {
	for _, l := range rosters() {
		for _, height := range []int{0, 2, api.MaxLevels} {
			for _, bad := range spoilt(l) {
				for _, links := range [][]api.Linked{nil, exact(l, height)} {
					wantNoMerge(t, network{bad, links}, network{}, height, api.ErrInvalid)
					wantNoMerge(t, network{bad, links}, exactly(nodes(node(700, "z", 0)), height), height, api.ErrInvalid)
					wantNoMerge(t, network{bad, links}, network{bad, links}, height, api.ErrInvalid)
				}
			}
		}
	}
}

func TestP9_2NoHeight(t *testing.T) {
	for _, height := range noLevels {
		wantNoMerge(t, network{}, network{}, height, api.ErrRange)
		for _, l := range rosters() {
			for _, links := range [][]api.Linked{nil, exact(l, 0), exact(l, api.MaxLevels)} {
				wantNoMerge(t, network{l, links}, network{}, height, api.ErrRange)
				wantNoMerge(t, network{l, links}, network{l, links}, height, api.ErrRange)
			}
			for _, bad := range spoilt(l) {
				wantNoMerge(t, network{bad, nil}, exactly(four(), 1), height, api.ErrRange)
			}
		}
	}
}

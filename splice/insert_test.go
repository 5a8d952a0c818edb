package splice

import (
	"math"
	"slices"
	"testing"

	"skipgraph/api"
	"skipgraph/ideal"
	"skipgraph/roster"
	"skipgraph/search"
)

// wantInsert examines Insert for the nodes in several orders.
func wantInsert(t *testing.T, l []api.Node, x api.Node, from, height int, want []api.Linked, visits int) {
	t.Helper()
	links := exact(l, height)
	for _, l := range orders(l) {
		got, n, err := Insert(l, links, x, from, height)
		if err != api.OK || n != visits || !ideal.Same(got, want) {
			t.Fatalf("Insert of %v into %v from %d at the height %d is %v, %d, %d, not %v, %d", x, l, from, height, got, n, err, want, visits)
		}
	}
}

// wantNoInsert examines that Insert returns only an error.
func wantNoInsert(t *testing.T, l []api.Node, links []api.Linked, x api.Node, from, height int, want api.Errno) {
	t.Helper()
	if got, n, err := Insert(l, links, x, from, height); err != want || n != 0 || len(got) > 0 {
		t.Fatalf("Insert(%v, %v, %v, %d, %d) = %v, %d, %d, not the error %d", l, links, x, from, height, got, n, err, want)
	}
}

// visitsOf counts the visits in the words of the chapter, without links of x.
func visitsOf(l []api.Node, x api.Node, from, height int) int {
	hops, _ := search.Route(l, exact(l, height), from, x.Key)
	sum := len(hops)
	for level := range height {
		for _, list := range ideal.Lists(with(l, x), level) {
			if place := slices.Index(list, x.ID); place >= 0 {
				sum += visitsUpTo(l, reversed(list[:place]), x, level) + visitsUpTo(l, list[place+1:], x, level)
			}
		}
	}
	return sum
}

// visitsUpTo returns how many of the nodes with the numbers ids are visited up to the first one with the same bit as x.
func visitsUpTo(l []api.Node, ids []int, x api.Node, bit int) int {
	for i, id := range ids {
		if y, _ := roster.Find(l, id); (y.Word>>bit)%2 == (x.Word>>bit)%2 {
			return i + 1
		}
	}
	return len(ids)
}

func TestP10_1Insert(t *testing.T) {
	// At c: to b; to the left b and a, which has the bit of c, to the right d; at level 1 to the left a.
	wantInsert(t, without(four(), 2), four()[2], 8, 2, linksOfFour(), 5)
	// At b: to c and a; to the left a, to the right c and d; at level 1 to the right d.
	wantInsert(t, without(four(), 1), four()[1], 1, 2, linksOfFour(), 6)
	// Below and above all others.
	wantInsert(t, four()[1:], four()[0], 2, 2, linksOfFour(), 3)
	wantInsert(t, four()[:3], four()[3], 5, 2, linksOfFour(), 3)
	wantInsert(t, four()[:3], four()[3], 8, 0, linked(element(8, link(0, 2)), element(2, link(8, 5)), element(5, link(2, 1)), element(1, link(5, 0))), 2)
	wantInsert(t, nodes(node(1, "a", 0), node(3, "c", 0)), node(2, "b", 1), 3, 1, linked(
		element(1, link(0, 2), link(0, 3)), element(2, link(1, 3), link(0, 0)), element(3, link(2, 0), link(1, 0)),
	), 3)
	wantInsert(t, nodes(node(1, "a", 0), node(3, "c", 0)), node(2, "b", 0), 3, 1, linked(
		element(1, link(0, 2), link(0, 2)), element(2, link(1, 3), link(1, 3)), element(3, link(2, 0), link(2, 0)),
	), 3)
}

func TestP10_1NodesOfRosters(t *testing.T) {
	for _, l := range rosters() {
		for i := 0; i < len(l); i += 1 + len(l)/8 {
			rest := without(l, i)
			for _, height := range heights(rest) {
				for _, y := range someOf(rest, 3) {
					wantInsert(t, rest, l[i], y.ID, height, exact(l, height), visitsOf(rest, l[i], y.ID, height))
				}
			}
		}
	}
}

func TestP10_1NewNodes(t *testing.T) {
	for _, l := range rostersWithRoom()[1:] {
		for _, x := range newcomers(l) {
			for _, height := range []int{0, 3, api.MaxLevels} {
				from := l[len(x.Key)*7%len(l)].ID
				wantInsert(t, l, x, from, height, exact(with(l, x), height), visitsOf(l, x, from, height))
			}
		}
	}
}

// All words of a few kinds are tried for five nodes.
func TestP10_1AllWordsOfFiveNodes(t *testing.T) {
	kinds := []uint32{0, 1, 2, 1 << 15}
	for n := range 1 << 10 {
		l := withWords(kinds[n&3], kinds[n>>2&3], kinds[n>>4&3], kinds[n>>6&3], kinds[n>>8&3])
		for i, x := range l {
			rest := without(l, i)
			from, height := rest[n%4].ID, []int{1, 2, 3, api.MaxLevels}[n/4%4]
			got, visits, err := Insert(rest, exact(rest, height), x, from, height)
			if err != api.OK || !ideal.Same(got, exact(l, height)) || visits != visitsOf(rest, x, from, height) {
				t.Fatalf("Insert of %v into %v from %d at the height %d is %v, %d, %d", x, rest, from, height, got, visits, err)
			}
		}
	}
}

// The first node joins from any number, its own one included, without a visit.
func TestP10_1FirstNode(t *testing.T) {
	for height := range api.MaxLevels + 1 {
		for _, x := range nodes(node(7, "m", 5), node(1, "", 0), node(math.MaxInt32, greatest, 1<<16-1)) {
			for _, from := range append(strangers(nil), 1, 7, x.ID) {
				want := linked(element(x.ID, make([]api.Link, height+1)...))
				wantInsert(t, nil, x, from, height, want, 0)
				wantInsert(t, nodes(), x, from, height, want, 0)
			}
		}
	}
}

func TestP10_1NodesThatCannotJoin(t *testing.T) {
	for _, l := range rosters() {
		for _, height := range []int{0, 2, api.MaxLevels} {
			// A roster of MaxNodes nodes takes no node, whatever it is.
			full := len(l) == api.MaxNodes
			orLimit := func(err api.Errno) api.Errno {
				if full {
					return api.ErrLimit
				}
				return err
			}
			for _, x := range append(invalid(), api.Node{}) {
				for _, from := range []int{firstID(l), 700} {
					wantNoInsert(t, l, exact(l, height), x, from, height, orLimit(api.ErrInvalid))
				}
			}
			for _, y := range someOf(l, 6) {
				for _, x := range nodes(y, node(y.ID, "y", 0), node(500, y.Key, 1)) {
					for _, from := range []int{firstID(l), y.ID, 500, 700} {
						wantNoInsert(t, l, exact(l, height), x, from, height, orLimit(api.ErrDuplicate))
						wantNoInsert(t, reversed(l), exact(l, height), x, from, height, orLimit(api.ErrDuplicate))
					}
				}
				// That the Key or the number occurs already does not matter for a node that is not valid.
				for _, x := range nodes(node(0, y.Key, 0), node(-y.ID, y.Key, 0), node(y.ID, tooLong, 0), node(y.ID, y.Key, 1<<16)) {
					wantNoInsert(t, l, exact(l, height), x, firstID(l), height, orLimit(api.ErrInvalid))
				}
			}
		}
	}
}

func TestP10_1MaxNodes(t *testing.T) {
	for _, word := range words {
		l := ranked(api.MaxNodes, word)
		for _, height := range []int{0, 3, api.MaxLevels} {
			links := exact(l, height)
			for _, x := range newcomers(l[1:]) {
				wantNoInsert(t, l, links, x, l[5].ID, height, api.ErrLimit)
				wantNoInsert(t, reversed(l), links, x, 700, height, api.ErrLimit)
			}
			// The nodes and the new one may be MaxNodes together.
			last := l[api.MaxNodes-1]
			wantInsert(t, l[:api.MaxNodes-1], last, l[5].ID, height, links, visitsOf(l[:api.MaxNodes-1], last, l[5].ID, height))
		}
	}
}

func TestP10_1UnknownNumbers(t *testing.T) {
	for _, l := range rostersWithRoom()[1:] {
		for _, height := range []int{0, 2, api.MaxLevels} {
			for _, x := range newcomers(l)[:2] {
				// The search cannot begin at x either.
				for _, from := range append(strangers(l), x.ID) {
					wantNoInsert(t, l, exact(l, height), x, from, height, api.ErrUnknown)
					wantNoInsert(t, reversed(l), exact(l, height), x, from, height, api.ErrUnknown)
				}
			}
		}
	}
}

func TestP10_1Defects(t *testing.T) {
	for _, links := range defective(t) {
		for _, x := range nodes(node(500, "bb", 2), node(500, "", 0), node(500, "z", 1), four()[1], api.Node{}) {
			for _, from := range []int{8, 5, 700} {
				wantNoInsert(t, four(), links, x, from, 1, api.ErrInvalid)
			}
		}
	}
}

func TestP10_1LinksThatAreNotExact(t *testing.T) {
	for _, l := range rosters() {
		for _, height := range []int{0, 2, api.MaxLevels} {
			for _, links := range inexact(l, height) {
				wantNoInsert(t, l, links, node(500, "y", 0), firstID(l), height, api.ErrInvalid)
				// What is wrong with the other arguments does not matter then.
				for _, x := range nodes(node(500, "b", 1), node(firstID(l), "y", 0), api.Node{}) {
					wantNoInsert(t, l, links, x, 700, height, api.ErrInvalid)
					wantNoInsert(t, reversed(l), links, x, firstID(l), height, api.ErrInvalid)
				}
			}
		}
	}
}

func TestP10_1NoRosters(t *testing.T) {
	for _, l := range spoilt() {
		for _, height := range []int{0, 2, api.MaxLevels} {
			for _, links := range [][]api.Linked{nil, exact(four(), height), exact(l[:len(l)-1], height)} {
				for _, x := range nodes(node(501, "z", 0), four()[1], l[0], api.Node{}) {
					for _, from := range []int{l[0].ID, 8, 700} {
						wantNoInsert(t, l, links, x, from, height, api.ErrInvalid)
						wantNoInsert(t, reversed(l), links, x, from, height, api.ErrInvalid)
					}
				}
			}
		}
	}
}

func TestP10_1NoHeight(t *testing.T) {
	for _, height := range noLevels {
		for _, l := range append(rosters(), spoilt()...) {
			for _, links := range [][]api.Linked{nil, exact(l, 0), exact(l, api.MaxLevels)} {
				for _, x := range nodes(node(501, "z", 0), api.Node{}, node(firstID(l), "y", 0)) {
					for _, from := range []int{firstID(l), 700} {
						wantNoInsert(t, l, links, x, from, height, api.ErrRange)
					}
				}
			}
		}
	}
}

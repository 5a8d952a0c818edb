package splice

import (
	"slices"
	"testing"

	"skipgraph/api"
	"skipgraph/ideal"
)

// copied returns links that share no memory with l.
func copied(l []api.Linked) []api.Linked {
	var out []api.Linked
	for _, x := range l {
		out = append(out, element(x.ID, slices.Clone(x.Levels)...))
	}
	return out
}

// guarded is nodes and links with spare capacity, which must stay as they are.
type guarded struct {
	nodes, nodesBefore []api.Node
	links, linksBefore []api.Linked
	spare              [][]api.Link
}

// guard copies nodes and links into slices with spare capacity.
func guard(l []api.Node, links []api.Linked) guarded {
	var g guarded
	g.nodes = append(slices.Clone(l), node(99, "spare", 1), node(98, "spare", 2), node(97, "spare", 3))
	g.links = append(copied(links), element(99, link(1, 2)), element(98, link(3, 4)))
	for i, x := range g.links {
		whole := append(x.Levels, link(7, 8), link(9, 10))
		g.spare = append(g.spare, whole[len(x.Levels):])
		g.links[i].Levels = whole[:len(x.Levels)]
	}
	g.nodesBefore, g.linksBefore = slices.Clone(g.nodes), copied(g.links)
	return g
}

// given returns the nodes and the links without what is in the spare capacity.
func (g guarded) given() ([]api.Node, []api.Linked) {
	return g.nodes[:len(g.nodes)-3], g.links[:len(g.links)-2]
}

func (g guarded) want(t *testing.T) {
	t.Helper()
	same := slices.Equal(g.nodes, g.nodesBefore) && ideal.Same(g.links, g.linksBefore)
	for _, spare := range g.spare {
		same = same && slices.Equal(spare, []api.Link{link(7, 8), link(9, 10)})
	}
	if !same {
		t.Fatalf("an argument is changed: %v, %v, not %v, %v", g.nodes, g.links, g.nodesBefore, g.linksBefore)
	}
}

func TestArgumentsStayAsTheyAre(t *testing.T) {
	for _, l := range append(rosters(), spoilt()...) {
		for _, height := range []int{0, 2, api.MaxLevels} {
			for _, links := range [][]api.Linked{exact(l, height), exact(four(), height), nil} {
				for _, l := range [][]api.Node{l, reversed(l)} {
					g := guard(l, links)
					given, links := g.given()
					for _, y := range append(someOf(l, 4), node(700, "", 0)) {
						for _, x := range nodes(node(500, "", 0), node(500, "bb", 1), node(500, "k1003x", 5), node(500, "z", 1<<15), y, node(0, "y", 0)) {
							Insert(given, links, x, y.ID, height)
						}
						Remove(given, links, y.ID, height)
						Insert(given, links, node(500, "y", 0), y.ID, -1)
						Remove(given, links, y.ID, api.MaxLevels+1)
					}
					g.want(t)
				}
			}
		}
	}
}

// scribble overwrites links, one element after another, with what is in their spare capacity. In between it examines that the
// elements that are left are those of other, which is an equal result.
func scribble(t *testing.T, l, other []api.Linked) {
	t.Helper()
	for i, x := range l {
		levels := x.Levels[:cap(x.Levels)]
		for k := range levels {
			levels[k] = link(-7, -7)
		}
		if !ideal.Same(l[i+1:], other[i+1:]) {
			t.Fatalf("the element %d of a result shares memory with another one", i)
		}
	}
	l = l[:cap(l)]
	for i := range l {
		l[i] = element(-7)
	}
}

// wantNewMemory examines that the results of call share no memory with its arguments, with one another and in themselves.
func wantNewMemory(t *testing.T, l []api.Node, height int, call func(l []api.Node, links []api.Linked) []api.Linked) {
	t.Helper()
	g := guard(l, exact(l, height))
	given, links := g.given()
	first, second := call(given, links), call(given, links)
	before := copied(second)
	scribble(t, first, second)
	g.want(t)
	if !ideal.Same(second, before) || !ideal.Same(call(given, links), before) {
		t.Fatalf("the results of two calls with %v at the height %d share memory", l, height)
	}
}

func TestP10_1LinksShareNoMemory(t *testing.T) {
	for _, l := range rostersWithRoom() {
		for _, height := range []int{0, 2, api.MaxLevels} {
			for _, x := range newcomers(l) {
				wantNewMemory(t, l, height, func(l []api.Node, links []api.Linked) []api.Linked {
					out, _, err := Insert(l, links, x, firstID(l), height)
					if err != api.OK {
						t.Fatalf("Insert of %v into %v has the error %d", x, l, err)
					}
					return out
				})
			}
		}
	}
}

func TestP10_2LinksShareNoMemory(t *testing.T) {
	for _, l := range rosters() {
		for _, height := range []int{0, 2, api.MaxLevels} {
			for _, x := range someOf(l, 8) {
				wantNewMemory(t, l, height, func(l []api.Node, links []api.Linked) []api.Linked {
					out, _, err := Remove(l, links, x.ID, height)
					if err != api.OK {
						t.Fatalf("Remove of %v from %v has the error %d", x, l, err)
					}
					return out
				})
			}
		}
	}
}

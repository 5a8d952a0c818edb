package bulk

import (
	"slices"
	"testing"

	"skipgraph/api"
	"skipgraph/ideal"
)

// copied returns links that share no memory with l.
func copied(l []api.Linked) []api.Linked {
	var out []api.Linked
	for _, x := range l {
		out = append(out, element(x.ID, slices.Clone(x.Levels)...))
	}
	return out
}

// guarded is nodes and links with spare capacity, which must stay as they are.
type guarded struct {
	nodes, nodesBefore []api.Node
	links, linksBefore []api.Linked
	spare              [][]api.Link
}

// guard copies nodes and links into slices with spare capacity.
func guard(l []api.Node, links []api.Linked) guarded {
	var g guarded
	g.nodes = append(slices.Clone(l), node(99, "spare", 1), node(98, "spare", 2), node(97, "spare", 3))
	g.links = append(copied(links), element(99, link(1, 2)), element(98, link(3, 4)))
	for i, x := range g.links {
		whole := append(x.Levels, link(7, 8), link(9, 10))
		g.spare = append(g.spare, whole[len(x.Levels):])
		g.links[i].Levels = whole[:len(x.Levels)]
	}
	g.nodesBefore, g.linksBefore = slices.Clone(g.nodes), copied(g.links)
	return g
}

// given returns the nodes and the links without what is in the spare capacity.
func (g guarded) given() ([]api.Node, []api.Linked) {
	return g.nodes[:len(g.nodes)-3], g.links[:len(g.links)-2]
}

func (g guarded) want(t *testing.T) {
	t.Helper()
	same := slices.Equal(g.nodes, g.nodesBefore) && ideal.Same(g.links, g.linksBefore)
	for _, spare := range g.spare {
		same = same && slices.Equal(spare, []api.Link{link(7, 8), link(9, 10)})
	}
	if !same {
		t.Fatalf("an argument is changed: %v, %v, not %v, %v", g.nodes, g.links, g.nodesBefore, g.linksBefore)
	}
}

// cases calls use for the nodes of rosters in several orders, divided in two, and for lists that are no rosters, with a height.
func cases(use func(a, b []api.Node, height int)) {
	for _, l := range rosters() {
		for _, height := range []int{0, 2, api.MaxLevels} {
			for _, belongs := range []func(i int) bool{func(int) bool { return true }, func(i int) bool { return i%2 == 0 }, func(i int) bool { return i > len(l)/2 }} {
				a, b := divided(l, belongs)
				use(a, b, height)
				use(reversed(a), reversed(b), height)
			}
			use(spoilt(l)[1], l, height)
			use(l, l, height)
		}
	}
}

func TestArgumentsStayAsTheyAre(t *testing.T) {
	cases(func(a, b []api.Node, height int) {
		for _, links := range [][]api.Linked{exact(a, height), nil, exact(b, height)} {
			g, h := guard(a, links), guard(b, exact(b, height))
			an, al := g.given()
			bn, bl := h.given()
			Load(an, height)
			Merge(an, al, bn, bl, height)
			Merge(bn, bl, an, al, height)
			for _, key := range []string{"", "b", "k1002", greatest, tooLong} {
				Cut(an, al, key, height)
			}
			Load(an, -1)
			Merge(an, al, bn, bl, api.MaxLevels+1)
			Cut(an, al, "b", -1)
			g.want(t)
			h.want(t)
		}
	})
}

// scribble overwrites links, one element after another, with what is in their spare capacity. In between it examines that the
// elements that are left are those of other, which is an equal result.
func scribble(t *testing.T, l, other []api.Linked) {
	t.Helper()
	for i, x := range l {
		levels := x.Levels[:cap(x.Levels)]
		for k := range levels {
			levels[k] = link(-7, -7)
		}
		if !ideal.Same(l[i+1:], other[i+1:]) {
			t.Fatalf("the element %d of a result shares memory with another one", i)
		}
	}
	l = l[:cap(l)]
	for i := range l {
		l[i] = element(-7)
	}
}

func TestP9_1LoadedLinksShareNoMemory(t *testing.T) {
	for _, l := range rosters() {
		for _, height := range []int{0, 2, api.MaxLevels} {
			first, _, _ := Load(l, height)
			second, _, _ := Load(l, height)
			scribble(t, first, second)
			wantLoad(t, l, height, second, countOf(second))
			if !ideal.Same(second, exact(l, height)) {
				t.Fatalf("the results of two calls with %v share memory", l)
			}
		}
	}
}

func TestP9_2MergedLinksShareNoMemory(t *testing.T) {
	cases(func(a, b []api.Node, height int) {
		g, h := guard(a, exact(a, height)), guard(b, exact(b, height))
		an, al := g.given()
		bn, bl := h.given()
		first, _ := Merge(an, al, bn, bl, height)
		second, _ := Merge(an, al, bn, bl, height)
		before := copied(second)
		scribble(t, first, second)
		g.want(t)
		h.want(t)
		third, _ := Merge(an, al, bn, bl, height)
		if !ideal.Same(second, before) || !ideal.Same(third, before) {
			t.Fatalf("the results of two calls with %v and %v share memory", a, b)
		}
	})
}

func TestP9_3LinksOfPartsShareNoMemory(t *testing.T) {
	cases(func(l, _ []api.Node, height int) {
		for _, key := range []string{"", "b", "k1002", "k1032", greatest} {
			g := guard(l, exact(l, height))
			nodes, links := g.given()
			left, right, _ := Cut(nodes, links, key, height)
			otherLeft, otherRight, _ := Cut(nodes, links, key, height)
			beforeLeft, beforeRight := copied(otherLeft), copied(otherRight)
			scribble(t, left, otherLeft)
			if !ideal.Same(right, beforeRight) {
				t.Fatalf("the two results of Cut of %v at %q share memory", l, key)
			}
			scribble(t, right, otherRight)
			g.want(t)
			if !ideal.Same(otherLeft, beforeLeft) || !ideal.Same(otherRight, beforeRight) {
				t.Fatalf("the results of two calls with %v share memory", l)
			}
		}
	})
}

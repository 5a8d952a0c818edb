package join

import (
	"slices"

	"skipgraph/api"
	"skipgraph/locked"
	"skipgraph/roster"
)

// Present returns the numbers of the nodes that are members at a level, ascending by their Keys (P13.4).
func Present(f api.Forest, level int) []int {
	if !valid(f) {
		return nil
	}
	return present(f, level)
}

// Links returns the links of the nodes that are present at level 0, as the lists have them now (P13.4).
func Links(f api.Forest) []api.Linked {
	if !valid(f) {
		return nil
	}
	var out []api.Linked
	for _, id := range present(f, 0) {
		out = append(out, api.Linked{ID: id, Levels: make([]api.Link, f.Height+1)})
	}
	for level := range f.Height + 1 {
		links := linksAt(f, level)
		for _, x := range out {
			x.Levels[level] = links[x.ID]
		}
	}
	return out
}

// Check reports whether the lists of f, and the nodes in them, are such as New, Start and Step leave them (P13.5).
func Check(f api.Forest) bool {
	if !valid(f) || slices.ContainsFunc(f.Layers, func(x api.Layer) bool { return !locked.Check(x.List) }) {
		return false
	}
	for level := range f.Height {
		below := present(f, level)
		for _, id := range present(f, level+1) {
			if !slices.Contains(below, id) {
				return false
			}
		}
	}
	return true
}

// Bound returns a number of steps that the climbers do not exceed, in any order (P13.6).
func Bound(f api.Forest) int {
	if !valid(f) {
		return 0
	}
	m := 0
	for _, c := range f.Climbers {
		if c.Kind != api.OpNone {
			m++
		}
	}
	return m * (f.Height + 1) * ((m+1)*(len(f.Nodes)+7) + 7)
}

// present returns the numbers of the nodes that are members at a level, of which the layers need not be in order.
func present(f api.Forest, level int) []int {
	links := linksAt(f, level)
	var out []int
	for _, x := range roster.Sort(f.Nodes) {
		if _, found := links[x.ID]; found {
			out = append(out, x.ID)
		}
	}
	return out
}

// linksAt returns the links of the members of all lists of a level, by the numbers of the nodes.
func linksAt(f api.Forest, level int) map[int]api.Link {
	links := map[int]api.Link{}
	for _, x := range f.Layers {
		if x.Level != level {
			continue
		}
		for _, i := range locked.Members(x.List) {
			cell := x.List.Cells[i]
			links[x.Nodes[i-first]] = api.Link{Left: number(x, cell.Left), Right: number(x, cell.Right)}
		}
	}
	return links
}

// number returns the number of the node of a cell, 0 for the head and the tail.
func number(x api.Layer, cell int) int {
	if cell < first {
		return 0
	}
	return x.Nodes[cell-first]
}

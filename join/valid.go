package join

import (
	"slices"

	"skipgraph/api"
	"skipgraph/locked"
	"skipgraph/roster"
)

// valid reports whether f is well-formed, whatever the links of its lists are and whatever its climbers do (P13.1).
func valid(f api.Forest) bool {
	// New has an error exactly if the nodes, the number of climbers or the height are not as they must be.
	fresh, err := New(f.Nodes, nil, len(f.Climbers), f.Height)
	return err == api.OK && slices.EqualFunc(f.Layers, fresh.Layers, isLike) && validClimbers(f)
}

// isLike reports whether a layer has a list that is valid, and is the other one but for links and processes.
func isLike(x, fresh api.Layer) bool {
	sameKey := func(a, b api.Cell) bool { return a.Key == b.Key }
	return x.Level == fresh.Level && x.Word == fresh.Word && slices.Equal(x.Nodes, fresh.Nodes) &&
		slices.EqualFunc(x.List.Cells, fresh.List.Cells, sameKey) &&
		len(x.List.Procs) == len(fresh.List.Procs) && locked.Valid(x.List)
}

func validClimbers(f api.Forest) bool {
	for _, c := range f.Climbers {
		if c != (api.Climber{}) && !(isKind(c.Kind) && isNode(f.Nodes, c.Node) && isLevel(c.Level, f.Height)) {
			return false
		}
	}
	return true
}

func isIndex(i, n int) bool { return i >= 0 && i < n }

func isLevel(level, height int) bool { return level >= 0 && level <= height }

// isKind reports whether a climber that is not idle can have a kind.
func isKind(kind int) bool { return kind == api.OpInsert || kind == api.OpRemove }

func isNode(nodes []api.Node, id int) bool {
	_, found := roster.Find(nodes, id)
	return found
}

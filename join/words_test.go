package join

import (
	"cmp"
	"slices"
	"testing"

	"skipgraph/api"
	"skipgraph/locked"
	"skipgraph/roster"
	"skipgraph/word"
)

// ascending returns nodes in ascending order of their Keys.
func ascending(nodes []api.Node) []api.Node {
	return slices.SortedFunc(slices.Values(nodes), func(a, b api.Node) int { return cmp.Compare(a.Key, b.Key) })
}

// listsInWords returns the lists of a level, as chapter 6 says them.
func listsInWords(nodes []api.Node, level int) [][]api.Node {
	var out [][]api.Node
	for _, x := range ascending(nodes) {
		at := slices.IndexFunc(out, func(l []api.Node) bool { return word.Same(l[0].Word, x.Word, level) })
		if at < 0 {
			out = append(out, []api.Node{x})
		} else {
			out[at] = append(out[at], x)
		}
	}
	return out
}

// newInWords returns what New has to return if there is no error.
func newInWords(nodes []api.Node, in []int, procs, height int) api.Forest {
	f := api.Forest{Nodes: slices.Clone(nodes), Height: height}
	for level := 0; level <= height; level++ {
		for _, l := range listsInWords(nodes, level) {
			layer := api.Layer{Level: level, Word: l[0].Word}
			var keys []string
			var joined []bool
			for _, x := range l {
				layer.Nodes = append(layer.Nodes, x.ID)
				keys = append(keys, x.Key)
				joined = append(joined, slices.Contains(in, x.ID))
			}
			layer.List, _ = locked.New(keys, joined, procs)
			f.Layers = append(f.Layers, layer)
		}
	}
	for range procs {
		f.Climbers = append(f.Climbers, api.Climber{})
	}
	return f
}

func isNodeInWords(f api.Forest, id int) bool {
	return slices.ContainsFunc(f.Nodes, func(x api.Node) bool { return x.ID == id })
}

// validInWords reports whether a forest is valid, as chapter 13 says it.
func validInWords(f api.Forest) bool {
	if roster.Check(f.Nodes) != api.OK || f.Height < 0 || f.Height > api.MaxLevels || len(f.Climbers) < 1 || len(f.Climbers) > api.MaxProcs {
		return false
	}
	want := newInWords(f.Nodes, nil, len(f.Climbers), f.Height)
	if len(f.Layers) != len(want.Layers) {
		return false
	}
	for i, x := range f.Layers {
		y := want.Layers[i]
		if x.Level != y.Level || x.Word != y.Word || !slices.Equal(x.Nodes, y.Nodes) || !locked.Valid(x.List) || len(x.List.Procs) != len(f.Climbers) {
			return false
		}
		if len(x.List.Cells) != 2+len(x.Nodes) {
			return false
		}
		for k, c := range x.List.Cells {
			if c.Key != y.List.Cells[k].Key {
				return false
			}
		}
	}
	for _, c := range f.Climbers {
		idle := c.Kind == api.OpNone && c.Node == 0 && c.Level == 0
		works := (c.Kind == api.OpInsert || c.Kind == api.OpRemove) && isNodeInWords(f, c.Node) && c.Level >= 0 && c.Level <= f.Height
		if !idle && !works {
			return false
		}
	}
	return true
}

// siteInWords returns the layer of a level to which a node belongs by its word, and its cell there, which its key tells.
func siteInWords(f *api.Forest, level, id int) (*api.Layer, int) {
	at := slices.IndexFunc(f.Nodes, func(x api.Node) bool { return x.ID == id })
	for i := range f.Layers {
		x := &f.Layers[i]
		if x.Level == level && word.Same(x.Word, f.Nodes[at].Word, level) {
			for k := 2; k < len(x.List.Cells); k++ {
				if x.List.Cells[k].Key == f.Nodes[at].Key {
					return x, k
				}
			}
		}
	}
	return nil, 0
}

func isMemberInWords(f api.Forest, level, id int) bool {
	x, cell := siteInWords(&f, level, id)
	return slices.Contains(locked.Members(x.List), cell)
}

// beginInWords starts the operation of a climber in the list of a level.
func beginInWords(f api.Forest, p int, c api.Climber) (api.Forest, api.Errno) {
	out := clone(f)
	x, cell := siteInWords(&out, c.Level, c.Node)
	list, err := locked.Start(x.List, p, c.Kind, cell)
	if err != api.OK {
		return api.Forest{}, err
	}
	x.List = list
	out.Climbers[p] = c
	return out, api.OK
}

// startInWords returns what Start has to return.
func startInWords(f api.Forest, p, kind, id int) (api.Forest, api.Errno) {
	if !validInWords(f) {
		return api.Forest{}, api.ErrInvalid
	}
	if p < 0 || p >= len(f.Climbers) {
		return api.Forest{}, api.ErrRange
	}
	if !isNodeInWords(f, id) {
		return api.Forest{}, api.ErrUnknown
	}
	if kind != api.OpInsert && kind != api.OpRemove {
		return api.Forest{}, api.ErrInvalid
	}
	if f.Climbers[p].Kind != api.OpNone {
		return api.Forest{}, api.ErrState
	}
	for q, c := range f.Climbers {
		if q != p && c.Kind != api.OpNone && c.Node == id {
			return api.Forest{}, api.ErrBusy
		}
	}
	level := 0
	if kind == api.OpInsert {
		if isMemberInWords(f, 0, id) {
			return api.Forest{}, api.ErrDuplicate
		}
	} else {
		if !isMemberInWords(f, 0, id) {
			return api.Forest{}, api.ErrMissing
		}
		level = f.Height
	}
	return beginInWords(f, p, api.Climber{Kind: kind, Node: id, Level: level})
}

// stepInWords returns what Step has to return.
func stepInWords(f api.Forest, p int) (api.Forest, bool) {
	if !validInWords(f) {
		return api.Forest{}, false
	}
	if p < 0 || p >= len(f.Climbers) || f.Climbers[p].Kind == api.OpNone {
		return f, false
	}
	c, out := f.Climbers[p], clone(f)
	x, _ := siteInWords(&out, c.Level, c.Node)
	if x.List.Procs[p].Phase != api.PhaseDone {
		list, ok := locked.Step(x.List, p)
		if !ok {
			return f, false
		}
		x.List = list
		return out, true
	}
	c.Level += map[int]int{api.OpInsert: 1, api.OpRemove: -1}[c.Kind]
	if c.Level < 0 || c.Level > f.Height {
		out.Climbers[p] = api.Climber{}
		return out, true
	}
	next, err := beginInWords(f, p, c)
	if err != api.OK {
		return f, false
	}
	return next, true
}

func presentInWords(f api.Forest, level int) []int {
	if !validInWords(f) || level < 0 || level > f.Height {
		return nil
	}
	var out []int
	for _, x := range ascending(f.Nodes) {
		if isMemberInWords(f, level, x.ID) {
			out = append(out, x.ID)
		}
	}
	return out
}

func linksInWords(f api.Forest) []api.Linked {
	var out []api.Linked
	for _, id := range presentInWords(f, 0) {
		y := api.Linked{ID: id}
		for level := 0; level <= f.Height; level++ {
			link := api.Link{}
			if isMemberInWords(f, level, id) {
				x, cell := siteInWords(&f, level, id)
				if left := x.List.Cells[cell].Left; left >= 2 {
					link.Left = x.Nodes[left-2]
				}
				if right := x.List.Cells[cell].Right; right >= 2 {
					link.Right = x.Nodes[right-2]
				}
			}
			y.Levels = append(y.Levels, link)
		}
		out = append(out, y)
	}
	return out
}

// The parts of Check.
const (
	partValid = 1 + iota
	partLists
	partLevels
)

// brokenParts returns the parts of Check that do not hold. If the first one does not, the others are not examined.
func brokenParts(f api.Forest) []int {
	if !validInWords(f) {
		return []int{partValid}
	}
	var out []int
	if slices.ContainsFunc(f.Layers, func(x api.Layer) bool { return !locked.Check(x.List) }) {
		out = append(out, partLists)
	}
	for level := 1; level <= f.Height; level++ {
		for _, id := range presentInWords(f, level) {
			if !slices.Contains(presentInWords(f, level-1), id) {
				return append(out, partLevels)
			}
		}
	}
	return out
}

func boundInWords(f api.Forest) int {
	if !validInWords(f) {
		return 0
	}
	m := 0
	for _, c := range f.Climbers {
		if c != (api.Climber{}) {
			m++
		}
	}
	n, h := len(f.Nodes), f.Height
	return m * (h + 1) * ((m+1)*(n+7) + 7)
}

// forest returns a valid forest of at most 5 nodes and 3 climbers, all of whose lists and climbers are any ones.
func (d *dice) forest() api.Forest {
	return d.filled(d.below(6), 1+d.below(3), []int{0, 1, 2, 2, 3, d.below(api.MaxLevels + 1)}[d.below(6)])
}

// filled returns such a forest with so many nodes and climbers, and a height.
func (d *dice) filled(n, procs, height int) api.Forest {
	f := newInWords(d.roster(n), nil, procs, height)
	for i := range f.Layers {
		d.fill(f.Layers[i].List)
	}
	for p := range f.Climbers {
		if n > 0 && d.below(4) > 0 {
			f.Climbers[p] = api.Climber{Kind: kinds[d.below(2)], Node: f.Nodes[d.below(n)].ID, Level: d.below(height + 1)}
		}
	}
	return f
}

// fill gives a list any links, locks and processes, of which many are done.
func (d *dice) fill(l api.List) {
	n := len(l.Cells)
	for i := range l.Cells {
		c := &l.Cells[i]
		c.Left, c.Right, c.Gone = d.below(n), d.below(n), d.below(3) == 0
		if d.below(6) == 0 {
			c.Lock = d.below(len(l.Procs) + 1)
		}
	}
	for p := range l.Procs {
		kind, phase := 1+d.below(3), 1+d.below(api.PhaseRelease)
		switch d.below(6) {
		case 0, 1:
			phase = api.PhaseDone
		case 2:
			kind, phase = api.OpNone, api.PhaseIdle
		}
		l.Procs[p] = api.Proc{Kind: kind, Phase: phase, Cell: d.below(n), Pred: d.below(n), Succ: d.below(n), Next: d.below(n), Result: d.chance()}
	}
}

func sameLinks(a, b []api.Linked) bool {
	return slices.EqualFunc(a, b, func(x, y api.Linked) bool { return x.ID == y.ID && slices.Equal(x.Levels, y.Levels) })
}

func wantStart(t *testing.T, f api.Forest, p, kind, id int) {
	t.Helper()
	got, err := Start(f, p, kind, id)
	if want, wantErr := startInWords(f, p, kind, id); err != wantErr || !same(got, want) {
		t.Fatalf("Start of %d, %d, %d in %v is %v, %d, not %v, %d", p, kind, id, f, got, err, want, wantErr)
	}
}

func wantStep(t *testing.T, f api.Forest, p int) {
	t.Helper()
	got, ok := Step(f, p)
	if want, wantOK := stepInWords(f, p); ok != wantOK || !same(got, want) {
		t.Fatalf("the step of %d in %v is %v, %v, not %v, %v", p, f, got, ok, want, wantOK)
	}
}

func wantPresent(t *testing.T, f api.Forest, level int) {
	t.Helper()
	if got, want := Present(f, level), presentInWords(f, level); !slices.Equal(got, want) {
		t.Fatalf("at level %d of %v the nodes %v are present, not %v", level, f, got, want)
	}
}

func wantLinks(t *testing.T, f api.Forest) {
	t.Helper()
	if got, want := Links(f), linksInWords(f); !sameLinks(got, want) {
		t.Fatalf("the links of %v are %v, not %v", f, got, want)
	}
}

func wantCheck(t *testing.T, f api.Forest) {
	t.Helper()
	broken := brokenParts(f)
	if got := Check(f); got != (len(broken) == 0) {
		t.Fatalf("the check of %v is %v, and the parts %v are broken", f, got, broken)
	}
}

func wantBound(t *testing.T, f api.Forest) {
	t.Helper()
	if got, want := Bound(f), boundInWords(f); got != want {
		t.Fatalf("the bound of %v is %d, not %d", f, got, want)
	}
}

// wantAll compares all functions of a forest, whether it is valid or not, with the chapter's words.
func wantAll(t *testing.T, f api.Forest) {
	t.Helper()
	ids := append(numbers(f.Nodes), -1, 0)
	for p := -1; p <= len(f.Climbers); p++ {
		wantStep(t, f, p)
		for kind := -1; kind < 5; kind++ {
			for _, id := range ids {
				wantStart(t, f, p, kind, id)
			}
		}
	}
	for level := -1; level <= f.Height+1 && level <= api.MaxLevels+1; level++ {
		wantPresent(t, f, level)
	}
	wantLinks(t, f)
	wantCheck(t, f)
	wantBound(t, f)
}

func TestAnyForests(t *testing.T) {
	var d dice
	for range 800 {
		wantAll(t, d.forest())
	}
}

func TestP13_3StepsInAnyForests(t *testing.T) {
	var d dice
	went, ended := 0, 0
	for range 12000 {
		f := d.forest()
		for p := range f.Climbers {
			wantStep(t, f, p)
			if next, ok := Step(f, p); ok && next.Climbers[p] == (api.Climber{}) {
				ended++
			} else if ok && next.Climbers[p] != f.Climbers[p] {
				went++
			}
		}
	}
	if went < 500 || ended < 500 {
		t.Errorf("%d climbers went on, and %d became idle", went, ended)
	}
}

func TestP13_4AnyForests(t *testing.T) {
	var d dice
	for range 20000 {
		f := d.forest()
		wantLinks(t, f)
		wantPresent(t, f, d.below(f.Height+1))
	}
	for range 20 {
		f := d.filled(len(samples), api.MaxProcs, api.MaxLevels)
		wantLinks(t, f)
		for level := range api.MaxLevels + 1 {
			wantPresent(t, f, level)
		}
	}
}

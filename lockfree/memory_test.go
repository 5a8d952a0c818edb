package lockfree

import (
	"slices"
	"testing"

	"skipgraph/api"
)

// guarded is a list with spare capacity, which must stay as it is.
type guarded struct{ list, before api.List }

const spare = 3

func guard(l api.List) guarded {
	var g guarded
	g.list.Cells = append(slices.Clone(l.Cells), member("spare", 1), gone("spare", 3), never("x"))
	g.list.Procs = append(slices.Clone(l.Procs), proc(7, 7, 7, 7, 7, 7), proc(8, 8, 8, 8, 8, 8), proc(9, 9, 9, 9, 9, 9))
	g.before = clone(g.list)
	return g
}

// given returns the list without what is in the spare capacity.
func (g guarded) given() api.List {
	return api.List{Cells: g.list.Cells[:len(g.list.Cells)-spare], Procs: g.list.Procs[:len(g.list.Procs)-spare]}
}

func (g guarded) want(t *testing.T) {
	t.Helper()
	if !same(g.list, g.before) {
		t.Fatalf("an argument is changed: %v, not %v", g.list, g.before)
	}
}

// scribble overwrites a list with what is in its spare capacity.
func scribble(l api.List) {
	cells, procs := l.Cells[:cap(l.Cells)], l.Procs[:cap(l.Procs)]
	for i := range cells {
		cells[i] = api.Cell{Key: "?", Left: -7, Right: -7, Lock: -7}
	}
	for i := range procs {
		procs[i] = proc(-7, -7, -7, -7, -7, -7)
	}
}

// anyLists returns lists that are reached, others that are valid, and some that are not.
func anyLists(t *testing.T) []api.List {
	t.Helper()
	out := append(reached(t), api.List{})
	var d dice
	for range 300 {
		l := d.list()
		out = append(out, l, spoil(l, func(l api.List) { l.Cells[0].Left = 1 }))
	}
	return append(out, d.filled(len(samples), api.MaxProcs))
}

func TestArgumentsStayAsTheyAre(t *testing.T) {
	for _, l := range anyLists(t) {
		g := guard(l)
		for p := -1; p <= len(l.Procs); p++ {
			Step(g.given(), p)
			for cell := 1; cell <= len(l.Cells); cell++ {
				for kind := -1; kind < 5; kind++ {
					Start(g.given(), p, kind, cell)
				}
			}
		}
		Valid(g.given())
		Members(g.given())
		Check(g.given())
		Bound(g.given())
		g.want(t)
	}
}

func TestP12_1ArgumentsStayAsTheyAre(t *testing.T) {
	keys := []string{"m", "", "z", "c", "spare", tooLong}
	in := []bool{true, false, true, true, false, true}
	keysBefore, inBefore := slices.Clone(keys), slices.Clone(in)
	for n := range len(keys) {
		for procs := range api.MaxProcs + 2 {
			l, _ := New(keys[:n], in[:n], procs)
			New(keys[:n], in[:n+1], procs)
			scribble(l)
			if !slices.Equal(keys, keysBefore) || !slices.Equal(in, inBefore) {
				t.Fatalf("an argument is changed: %q, %v", keys, in)
			}
		}
	}
}

// wantNewMemory examines that the results of call share no memory with its argument and with one another.
func wantNewMemory(t *testing.T, l api.List, call func(l api.List) api.List) {
	t.Helper()
	g := guard(l)
	first, second := call(g.given()), call(g.given())
	before := clone(second)
	scribble(first)
	g.want(t)
	if !same(second, before) || !same(call(g.given()), before) {
		t.Fatalf("the results of two calls with %v share memory", l)
	}
}

func TestP12_1ListsShareNoMemory(t *testing.T) {
	for _, n := range []int{0, 1, 5, api.MaxNodes} {
		wantNewMemory(t, api.List{}, func(api.List) api.List { return made(t, ranked(n), bits(n*7, n), 3) })
	}
}

func TestP12_3ListsShareNoMemory(t *testing.T) {
	for _, l := range anyLists(t) {
		for p := range l.Procs {
			for _, kind := range []int{api.OpInsert, api.OpFind} {
				for cell := 2; cell < len(l.Cells); cell++ {
					wantNewMemory(t, l, func(l api.List) api.List {
						out, _ := Start(l, p, kind, cell)
						return out
					})
				}
			}
		}
	}
}

// TestP12_4ListsShareNoMemory also examines steps that are not possible, which return the list unchanged.
func TestP12_4ListsShareNoMemory(t *testing.T) {
	for _, l := range anyLists(t) {
		for p := -1; p <= len(l.Procs); p++ {
			wantNewMemory(t, l, func(l api.List) api.List {
				out, _ := Step(l, p)
				return out
			})
		}
	}
}

func TestP12_5MembersShareNoMemory(t *testing.T) {
	for _, l := range anyLists(t) {
		first, second := Members(l), Members(l)
		before := slices.Clone(second)
		first = first[:cap(first)]
		for i := range first {
			first[i] = -7
		}
		if !slices.Equal(second, before) || !slices.Equal(Members(l), before) {
			t.Fatalf("the members of %v share memory", l)
		}
	}
}

package lockfree

import (
	"slices"
	"testing"

	"skipgraph/api"
)

// phases are the phases of a process that is not idle.
var phases = []int{api.PhaseFind, api.PhaseClean, api.PhaseLink0, api.PhaseSwap, api.PhaseMark, api.PhaseCut, api.PhaseDone}

// kinds are those of a process that is not idle.
var kinds = []int{api.OpInsert, api.OpRemove, api.OpFind}

// list returns a valid list of at most 7 cells and 3 processes, all of whose fields are any ones.
func (d *dice) list() api.List {
	return d.filled(d.below(6), 1+d.below(3))
}

// filled returns such a list with so many keys and processes.
func (d *dice) filled(keys, procs int) api.List {
	l := api.List{Cells: make([]api.Cell, 2), Procs: make([]api.Proc, procs)}
	for _, key := range shuffled(d, samples)[:keys] {
		l.Cells = append(l.Cells, api.Cell{Key: key})
	}
	n := len(l.Cells)
	for i := range l.Cells {
		c := &l.Cells[i]
		c.Right, c.Lock, c.Gone = d.below(n), d.below(2), d.below(3) == 0
	}
	for p := range l.Procs {
		x := api.Proc{Cell: d.below(n), Pred: d.below(n), Succ: d.below(n), Next: d.below(n), Result: d.chance()}
		switch d.below(8) {
		case 0:
			// The record of an idle process need not be zero.
		case 1:
			x = api.Proc{}
		default:
			x.Kind, x.Phase = kinds[d.below(3)], phases[d.below(len(phases))]
		}
		l.Procs[p] = x
	}
	return l
}

// under returns a list of 5 cells in which the second of three processes is under way.
func under(t *testing.T) api.List {
	t.Helper()
	return begun(t, made(t, []string{"m", "c", "x"}, []bool{true, true, false}, 3), 1, api.OpInsert, 4)
}

// wantNotValid examines that all functions report a list as not valid.
func wantNotValid(t *testing.T, l api.List) {
	t.Helper()
	if Valid(l) {
		t.Errorf("%v is valid", l)
	}
	for _, p := range []int{-1, 0, 1, 9} {
		if got, ok := Step(l, p); !isZero(got) || ok {
			t.Errorf("a step of %d in %v is %v, %v", p, l, got, ok)
		}
		for _, x := range [][2]int{{api.OpInsert, 2}, {api.OpFind, 3}, {9, 9}, {api.OpInsert, -1}, {api.OpNone, 2}} {
			if got, err := Start(l, p, x[0], x[1]); !isZero(got) || err != api.ErrInvalid {
				t.Errorf("Start of %d with %v in %v is %v, %d", p, x, l, got, err)
			}
		}
	}
	if got := Members(l); len(got) > 0 {
		t.Errorf("the members of %v are %v", l, got)
	}
	if Check(l) {
		t.Errorf("the check of %v is true", l)
	}
	if got := Bound(l); got != 0 {
		t.Errorf("the bound of %v is %d", l, got)
	}
}

// spoil returns a list that is changed in one place.
func spoil(l api.List, change func(l api.List)) api.List {
	out := clone(l)
	change(out)
	return out
}

func TestP12_2ValidLists(t *testing.T) {
	var d dice
	for range 20000 {
		if l := d.list(); !Valid(l) {
			t.Fatalf("%v is not valid", l)
		}
	}
	for range 100 {
		if l := d.filled(len(samples), api.MaxProcs); !Valid(l) {
			t.Fatalf("%v is not valid", l)
		}
	}
}

func TestP12_2NumberOfCells(t *testing.T) {
	l := api.List{Procs: make([]api.Proc, 1)}
	wantNotValid(t, l)
	wantNotValid(t, api.List{})
	keys := append([]string{"", ""}, ranked(api.MaxNodes+5)...)
	for n := 1; n <= len(keys); n++ {
		l.Cells = append(l.Cells, never(keys[n-1]))
		if n >= 2 && n <= api.MaxNodes+2 {
			if !Valid(l) {
				t.Errorf("a list of %d cells is not valid", n)
			}
		} else {
			wantNotValid(t, l)
		}
	}
}

func TestP12_2NumberOfProcesses(t *testing.T) {
	for _, keys := range []int{0, 1, 10} {
		l := made(t, ranked(keys), all(keys, true), 1)
		for n := range api.MaxProcs + 5 {
			l.Procs = make([]api.Proc, n)
			if n >= 1 && n <= api.MaxProcs {
				if !Valid(l) {
					t.Errorf("a list with %d processes is not valid", n)
				}
			} else {
				wantNotValid(t, l)
			}
		}
	}
}

func TestP12_2Keys(t *testing.T) {
	l := under(t)
	for _, key := range append([]string{tooLong}, samples...) {
		for i := range 2 {
			if key != "" {
				wantNotValid(t, spoil(l, func(l api.List) { l.Cells[i].Key = key }))
			}
		}
		for i := 2; i < len(l.Cells); i++ {
			changed := spoil(l, func(l api.List) { l.Cells[i].Key = key })
			twice := slices.ContainsFunc(l.Cells[2:], func(c api.Cell) bool { return c.Key == key }) && l.Cells[i].Key != key
			if key == tooLong || twice {
				wantNotValid(t, changed)
			} else if !Valid(changed) {
				t.Errorf("%v is not valid", changed)
			}
		}
	}
	for i := 2; i < len(l.Cells); i++ {
		for k := 2; k < i; k++ {
			for _, key := range []string{"", "m", greatest} {
				wantNotValid(t, spoil(l, func(l api.List) { l.Cells[i].Key, l.Cells[k].Key = key, key }))
			}
		}
	}
}

// indexFields are the fields of a list that are indices of cells.
var indexFields = []struct {
	name string
	at   func(l api.List, i int) *int
}{
	{"Right", func(l api.List, i int) *int { return &l.Cells[i].Right }},
	{"Cell", func(l api.List, i int) *int { return &l.Procs[i%len(l.Procs)].Cell }},
	{"Pred", func(l api.List, i int) *int { return &l.Procs[i%len(l.Procs)].Pred }},
	{"Succ", func(l api.List, i int) *int { return &l.Procs[i%len(l.Procs)].Succ }},
	{"Next", func(l api.List, i int) *int { return &l.Procs[i%len(l.Procs)].Next }},
}

func TestP12_2Indices(t *testing.T) {
	long := made(t, ranked(api.MaxNodes), all(api.MaxNodes, true), api.MaxProcs)
	for _, l := range []api.List{made(t, nil, nil, 1), under(t), long} {
		n := len(l.Cells)
		for _, field := range indexFields {
			for i := range l.Cells {
				for _, value := range []int{0, 1, n / 2, n - 1} {
					if changed := spoil(l, func(l api.List) { *field.at(l, i) = value }); !Valid(changed) {
						t.Errorf("%v with the %s %d at %d is not valid", l, field.name, value, i)
					}
				}
				for _, value := range append([]int{-1, n, n + 1, -n}, far...) {
					changed := spoil(l, func(l api.List) { *field.at(l, i) = value })
					if n < 10 || value == n {
						wantNotValid(t, changed)
					}
				}
			}
		}
	}
}

func TestP12_2Left(t *testing.T) {
	l := under(t)
	for i := range l.Cells {
		for _, left := range append([]int{-1, 1, 2, 3, len(l.Cells) - 1, len(l.Cells)}, far...) {
			wantNotValid(t, spoil(l, func(l api.List) { l.Cells[i].Left = left }))
		}
	}
}

func TestP12_2Locks(t *testing.T) {
	for n := 1; n <= api.MaxProcs; n++ {
		l := made(t, []string{"b", "a"}, []bool{true, false}, n)
		for i := range l.Cells {
			for lock := range 2 {
				for _, gone := range []bool{false, true} {
					if changed := spoil(l, func(l api.List) { l.Cells[i].Lock, l.Cells[i].Gone = lock, gone }); !Valid(changed) {
						t.Errorf("%v is not valid", changed)
					}
				}
			}
			for _, lock := range append([]int{-1, 2, 3, n + 1, -n}, far...) {
				wantNotValid(t, spoil(l, func(l api.List) { l.Cells[i].Lock = lock }))
			}
		}
	}
}

func TestP12_2KindsAndPhases(t *testing.T) {
	l := under(t)
	for p := range l.Procs {
		for kind := -1; kind < 6; kind++ {
			for phase := -2; phase < 24; phase++ {
				changed := spoil(l, func(l api.List) { l.Procs[p].Kind, l.Procs[p].Phase = kind, phase })
				idle := kind == api.OpNone && phase == api.PhaseIdle
				if idle || slices.Contains(kinds, kind) && slices.Contains(phases, phase) {
					if !Valid(changed) {
						t.Errorf("%v is not valid", changed)
					}
				} else {
					wantNotValid(t, changed)
				}
			}
		}
		for _, value := range far {
			wantNotValid(t, spoil(l, func(l api.List) { l.Procs[p].Kind = value }))
			wantNotValid(t, spoil(l, func(l api.List) { l.Procs[p].Kind, l.Procs[p].Phase = api.OpFind, value }))
			wantNotValid(t, spoil(l, func(l api.List) { l.Procs[p].Kind, l.Procs[p].Phase = value, value }))
			for _, phase := range phases {
				wantNotValid(t, spoil(l, func(l api.List) { l.Procs[p].Kind, l.Procs[p].Phase = value, phase }))
			}
		}
	}
}

func TestP12_2IdleProcessesNeedNotBeZero(t *testing.T) {
	l := made(t, []string{"b", "a"}, []bool{true, false}, 2)
	l.Procs[1] = api.Proc{Cell: 1, Pred: 3, Succ: 2, Next: 1, Result: true}
	if !Valid(l) {
		t.Errorf("%v is not valid", l)
	}
}

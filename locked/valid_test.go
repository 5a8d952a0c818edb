package locked

import (
	"slices"
	"testing"

	"skipgraph/api"
)

// phases are the phases of a process that is not idle.
var phases = []int{
	api.PhaseFind, api.PhaseLockPred, api.PhaseLockSucc, api.PhaseCheck, api.PhaseRetry, api.PhaseLink0, api.PhaseLink1, api.PhaseLink2,
	api.PhaseLockNext, api.PhaseUnlink0, api.PhaseUnlink1, api.PhaseUnlink2, api.PhaseRelease, api.PhaseDone,
}

// kinds are those of a process that is not idle.
var kinds = []int{api.OpInsert, api.OpRemove, api.OpFind}

// list returns a valid list of at most 7 cells and 3 processes, all of whose fields are any ones.
func (d *dice) list() api.List {
	return d.filled(d.below(6), 1+d.below(3))
}

// filled returns such a list with so many keys and processes.
func (d *dice) filled(keys, procs int) api.List {
	l := api.List{Cells: make([]api.Cell, 2), Procs: make([]api.Proc, procs)}
	for _, key := range shuffled(d, samples)[:keys] {
		l.Cells = append(l.Cells, api.Cell{Key: key})
	}
	n := len(l.Cells)
	locks := d.chance()
	for i := range l.Cells {
		c := &l.Cells[i]
		c.Left, c.Right, c.Gone = d.below(n), d.below(n), d.below(3) == 0
		if locks && d.chance() {
			c.Lock = d.below(procs + 1)
		}
	}
	for p := range l.Procs {
		if d.below(8) > 0 {
			kind, phase := kinds[d.below(3)], phases[d.below(len(phases))]
			l.Procs[p] = api.Proc{Kind: kind, Phase: phase, Cell: d.below(n), Pred: d.below(n), Succ: d.below(n), Next: d.below(n), Result: d.chance()}
		} else if d.chance() {
			l.Procs[p] = api.Proc{Cell: d.below(n), Pred: d.below(n), Succ: d.below(n), Next: d.below(n), Result: d.chance()}
		}
	}
	return l
}

// under returns a list of 5 cells in which the second of three processes is under way.
func under(t *testing.T) api.List {
	t.Helper()
	l := made(t, []string{"m", "c", "x"}, []bool{true, true, false}, 3)
	l, err := Start(l, 1, api.OpInsert, 4)
	if err != api.OK {
		t.Fatalf("Start has the error %d", err)
	}
	return l
}

// wantNotValid examines that all functions report a list as not valid.
func wantNotValid(t *testing.T, l api.List) {
	t.Helper()
	if Valid(l) {
		t.Errorf("%v is valid", l)
	}
	for _, p := range []int{-1, 0, 1, 9} {
		if got, ok := Step(l, p); !isZero(got) || ok {
			t.Errorf("a step of %d in %v is %v, %v", p, l, got, ok)
		}
		for _, x := range [][2]int{{api.OpInsert, 2}, {api.OpFind, 3}, {9, 9}, {api.OpInsert, -1}, {api.OpNone, 2}} {
			if got, err := Start(l, p, x[0], x[1]); !isZero(got) || err != api.ErrInvalid {
				t.Errorf("Start of %d with %v in %v is %v, %d", p, x, l, got, err)
			}
		}
	}
	if got := Members(l); len(got) > 0 {
		t.Errorf("the members of %v are %v", l, got)
	}
	if Check(l) {
		t.Errorf("the check of %v is true", l)
	}
	if got := Bound(l); got != 0 {
		t.Errorf("the bound of %v is %d", l, got)
	}
}

// spoil returns a list that is changed in one place.
func spoil(l api.List, change func(l api.List)) api.List {
	out := clone(l)
	change(out)
	return out
}

func TestP11_2ValidLists(t *testing.T) {
	var d dice
	for range 20000 {
		if l := d.list(); !Valid(l) {
			t.Fatalf("%v is not valid", l)
		}
	}
	for range 100 {
		if l := d.filled(len(samples), api.MaxProcs); !Valid(l) {
			t.Fatalf("%v is not valid", l)
		}
	}
}

func TestP11_2NumberOfCells(t *testing.T) {
	cell := func(i int) api.Cell { return api.Cell{Key: ranked(i + 1)[i]} }
	var l api.List
	l.Procs = make([]api.Proc, 1)
	wantNotValid(t, l)
	wantNotValid(t, api.List{})
	for n := 1; n <= api.MaxNodes+5; n++ {
		c := api.Cell{}
		if n > 2 {
			c = cell(n)
		}
		l.Cells = append(l.Cells, c)
		if n >= 2 && n <= api.MaxNodes+2 {
			if !Valid(l) {
				t.Errorf("a list of %d cells is not valid", n)
			}
		} else {
			wantNotValid(t, l)
		}
	}
}

func TestP11_2NumberOfProcesses(t *testing.T) {
	for _, keys := range []int{0, 1, 10} {
		l := made(t, ranked(keys), all(keys, true), 1)
		for n := range api.MaxProcs + 5 {
			l.Procs = make([]api.Proc, n)
			if n >= 1 && n <= api.MaxProcs {
				if !Valid(l) {
					t.Errorf("a list with %d processes is not valid", n)
				}
			} else {
				wantNotValid(t, l)
			}
		}
	}
}

func TestP11_2Keys(t *testing.T) {
	l := under(t)
	for _, key := range append([]string{tooLong}, samples...) {
		for i := range 2 {
			if key != "" {
				wantNotValid(t, spoil(l, func(l api.List) { l.Cells[i].Key = key }))
			}
		}
		for i := 2; i < len(l.Cells); i++ {
			changed := spoil(l, func(l api.List) { l.Cells[i].Key = key })
			twice := slices.ContainsFunc(l.Cells[2:], func(c api.Cell) bool { return c.Key == key }) && l.Cells[i].Key != key
			if key == tooLong || twice {
				wantNotValid(t, changed)
			} else if !Valid(changed) {
				t.Errorf("%v is not valid", changed)
			}
		}
	}
	for i := 2; i < len(l.Cells); i++ {
		for k := 2; k < len(l.Cells); k++ {
			for _, key := range []string{"", "m", greatest} {
				equal := spoil(l, func(l api.List) { l.Cells[i].Key, l.Cells[k].Key = key, key })
				if i != k {
					wantNotValid(t, equal)
				}
			}
		}
	}
}

// indexFields are the fields of a list that are indices of cells.
var indexFields = []struct {
	name string
	at   func(l api.List, i int) *int
}{
	{"Left", func(l api.List, i int) *int { return &l.Cells[i].Left }},
	{"Right", func(l api.List, i int) *int { return &l.Cells[i].Right }},
	{"Cell", func(l api.List, i int) *int { return &l.Procs[i%len(l.Procs)].Cell }},
	{"Pred", func(l api.List, i int) *int { return &l.Procs[i%len(l.Procs)].Pred }},
	{"Succ", func(l api.List, i int) *int { return &l.Procs[i%len(l.Procs)].Succ }},
	{"Next", func(l api.List, i int) *int { return &l.Procs[i%len(l.Procs)].Next }},
}

func TestP11_2Indices(t *testing.T) {
	long := made(t, ranked(api.MaxNodes), all(api.MaxNodes, true), api.MaxProcs)
	for _, l := range []api.List{made(t, nil, nil, 1), under(t), long} {
		n := len(l.Cells)
		for _, field := range indexFields {
			for i := range l.Cells {
				for _, value := range []int{0, 1, n / 2, n - 1} {
					if changed := spoil(l, func(l api.List) { *field.at(l, i) = value }); !Valid(changed) {
						t.Errorf("%v with the %s %d at %d is not valid", l, field.name, value, i)
					}
				}
				for _, value := range append([]int{-1, n, n + 1, -n}, far...) {
					changed := spoil(l, func(l api.List) { *field.at(l, i) = value })
					if n < 10 || value == n {
						wantNotValid(t, changed)
					}
				}
			}
		}
	}
}

func TestP11_2Locks(t *testing.T) {
	for n := 1; n <= api.MaxProcs; n++ {
		l := made(t, []string{"b", "a"}, []bool{true, false}, n)
		for i := range l.Cells {
			for lock := range n + 1 {
				if changed := spoil(l, func(l api.List) { l.Cells[i].Lock = lock }); !Valid(changed) {
					t.Errorf("%v with the lock %d at %d is not valid", l, lock, i)
				}
			}
			for _, lock := range append([]int{-1, n + 1, n + 2, -n}, far...) {
				wantNotValid(t, spoil(l, func(l api.List) { l.Cells[i].Lock = lock }))
			}
		}
	}
}

func TestP11_2KindsAndPhases(t *testing.T) {
	l := under(t)
	for p := range l.Procs {
		for kind := -1; kind < 6; kind++ {
			for phase := -2; phase < 24; phase++ {
				changed := spoil(l, func(l api.List) { l.Procs[p].Kind, l.Procs[p].Phase = kind, phase })
				idle := kind == api.OpNone && phase == api.PhaseIdle
				if idle || slices.Contains(kinds, kind) && slices.Contains(phases, phase) {
					if !Valid(changed) {
						t.Errorf("%v is not valid", changed)
					}
				} else {
					wantNotValid(t, changed)
				}
			}
		}
		for _, value := range far {
			wantNotValid(t, spoil(l, func(l api.List) { l.Procs[p].Kind = value }))
			wantNotValid(t, spoil(l, func(l api.List) { l.Procs[p].Kind, l.Procs[p].Phase = api.OpFind, value }))
			wantNotValid(t, spoil(l, func(l api.List) { l.Procs[p].Kind, l.Procs[p].Phase = value, value }))
		}
	}
}

func TestP11_2IdleProcessesNeedNotBeZero(t *testing.T) {
	l := made(t, []string{"b", "a"}, []bool{true, false}, 2)
	l.Procs[1] = api.Proc{Cell: 1, Pred: 3, Succ: 2, Next: 1, Result: true}
	if !Valid(l) {
		t.Errorf("%v is not valid", l)
	}
}

package lockfree

import (
	"math"
	"slices"
	"strconv"
	"strings"
	"testing"

	"skipgraph/api"
	"skipgraph/locked"
)

var (
	tooLong  = strings.Repeat("k", api.MaxKey+1)
	greatest = strings.Repeat("\xff", api.MaxKey)
)

// samples are valid keys in ascending order.
var samples = []string{"", "\x00", "A", "a", "a\x00", "aa", "b", "bb", "m", "z", "é", "\xff", greatest}

// far are numbers that are neither indices nor counts; the lowest 32 bits of some of them are.
var far = []int{1 << 32, 1<<32 + 1, 1<<32 + 2, -1 << 32, math.MinInt32, math.MaxInt32, math.MinInt, math.MaxInt}

// dice gives numbers that look as if they were thrown, the same ones in each run.
type dice uint64

// below returns a number from 0 to n - 1.
func (d *dice) below(n int) int {
	*d = *d*6364136223846793005 + 1442695040888963407
	return int(*d>>33) % n
}

func (d *dice) chance() bool { return d.below(2) == 0 }

// shuffled returns the elements of l in another order.
func shuffled[T any](d *dice, l []T) []T {
	out := slices.Clone(l)
	for i := range out {
		k := d.below(i + 1)
		out[i], out[k] = out[k], out[i]
	}
	return out
}

// ranked returns n keys in ascending order.
func ranked(n int) []string {
	var out []string
	for i := range n {
		out = append(out, "k"+strconv.Itoa(1000+i))
	}
	return out
}

// all returns n values b.
func all(n int, b bool) []bool { return slices.Repeat([]bool{b}, n) }

// bits returns the n lowest bits of a number.
func bits(number, n int) []bool {
	var out []bool
	for i := range n {
		out = append(out, number>>i&1 == 1)
	}
	return out
}

// member, gone and never return a cell that is a member, one that was removed and one that was never inserted.
func member(key string, right int) api.Cell { return api.Cell{Key: key, Right: right, Lock: 1} }

func gone(key string, right int) api.Cell {
	return api.Cell{Key: key, Right: right, Lock: 1, Gone: true}
}

func never(key string) api.Cell { return api.Cell{Key: key} }

func cells(l ...api.Cell) []api.Cell { return l }

func procs(l ...api.Proc) []api.Proc { return l }

func clone(l api.List) api.List {
	return api.List{Cells: slices.Clone(l.Cells), Procs: slices.Clone(l.Procs)}
}

func same(a, b api.List) bool {
	return slices.Equal(a.Cells, b.Cells) && slices.Equal(a.Procs, b.Procs)
}

func isZero(l api.List) bool { return len(l.Cells) == 0 && len(l.Procs) == 0 }

// made returns a list of New.
func made(t *testing.T, keys []string, in []bool, n int) api.List {
	t.Helper()
	l, err := New(keys, in, n)
	if err != api.OK {
		t.Fatalf("New of %q, %v, %d has the error %d", keys, in, n, err)
	}
	return l
}

// begun returns a list in which a process has begun an operation.
func begun(t *testing.T, l api.List, p, kind, cell int) api.List {
	t.Helper()
	out, err := Start(l, p, kind, cell)
	if err != api.OK {
		t.Fatalf("Start of %d, %d, %d in %v has the error %d", p, kind, cell, l, err)
	}
	return out
}

// after returns the list to which n steps of a process lead.
func after(t *testing.T, l api.List, p, n int) api.List {
	t.Helper()
	for range n {
		next, ok := Step(l, p)
		if !ok {
			t.Fatalf("%d makes no step in %v", p, l)
		}
		l = next
	}
	return l
}

// ended returns the list in which a process has ended its operation, and how many steps it made.
func ended(t *testing.T, l api.List, p int) (api.List, int) {
	t.Helper()
	bound := Bound(l)
	for n := range bound + 1 {
		if l.Procs[p].Phase == api.PhaseDone {
			return l, n
		}
		l = after(t, l, p, 1)
	}
	t.Fatalf("after %d steps %d has not ended in %v", bound, p, l)
	return l, bound
}

// ranks returns the place of each cell in the order of all cells.
func ranks(l api.List) []int {
	out := []int{0, len(l.Cells) - 1}
	for _, c := range l.Cells[2:] {
		rank := 1
		for _, other := range l.Cells[2:] {
			if other.Key < c.Key {
				rank++
			}
		}
		out = append(out, rank)
	}
	return out
}

// linkedList returns the list that New has to return.
func linkedList(keys []string, in []bool, n int) api.List {
	l := api.List{Cells: cells(member("", 1), member("", 0)), Procs: make([]api.Proc, n)}
	for i, key := range keys {
		c := never(key)
		if in[i] {
			// It comes behind the greatest one of the lesser members so far.
			before := 0
			for k, other := range l.Cells {
				if k >= 2 && other.Lock == 1 && other.Key < key && (before == 0 || other.Key > l.Cells[before].Key) {
					before = k
				}
			}
			c = member(key, l.Cells[before].Right)
			l.Cells[before].Right = i + 2
		}
		l.Cells = append(l.Cells, c)
	}
	return l
}

// byKeys returns the cells with in, in ascending order of their keys.
func byKeys(keys []string, in []bool) []int {
	var out []int
	for i := range keys {
		if in[i] {
			out = append(out, i+2)
		}
	}
	slices.SortFunc(out, func(a, b int) int { return strings.Compare(keys[a-2], keys[b-2]) })
	return out
}

func wantNew(t *testing.T, keys []string, in []bool, n int) {
	t.Helper()
	l, err := New(keys, in, n)
	if want := linkedList(keys, in, n); err != api.OK || !same(l, want) {
		t.Fatalf("New of %q, %v, %d is %v, %d, not %v", keys, in, n, l, err, want)
	}
	if !Valid(l) || !Check(l) || Bound(l) != 0 || !slices.Equal(Members(l), byKeys(keys, in)) {
		t.Fatalf("New of %q, %v, %d is %v, with which something is wrong", keys, in, n, l)
	}
}

func TestP12_1New(t *testing.T) {
	l := made(t, []string{"m", "", "z", "c"}, []bool{true, true, false, true}, 2)
	want := api.List{
		Cells: cells(member("", 3), member("", 0), member("m", 1), member("", 5), never("z"), member("c", 2)),
		Procs: make([]api.Proc, 2),
	}
	if !same(l, want) {
		t.Errorf("the list is %v, not %v", l, want)
	}
	l = made(t, nil, nil, 1)
	if want := (api.List{Cells: cells(member("", 1), member("", 0)), Procs: make([]api.Proc, 1)}); !same(l, want) {
		t.Errorf("the list without keys is %v, not %v", l, want)
	}
	l = made(t, []string{"a"}, []bool{false}, 1)
	if want := cells(member("", 1), member("", 0), never("a")); !slices.Equal(l.Cells, want) {
		t.Errorf("the cells of a key that is not in the list are %v, not %v", l.Cells, want)
	}
	l = made(t, []string{""}, []bool{true}, api.MaxProcs)
	if want := cells(member("", 2), member("", 0), member("", 1)); !slices.Equal(l.Cells, want) || len(l.Procs) != api.MaxProcs {
		t.Errorf("the list of the empty key is %v", l)
	}
}

func TestP12_1AllShortLists(t *testing.T) {
	for n := range 5 {
		for from := 0; from+n <= len(samples); from++ {
			d := dice(from)
			for number := range 1 << n {
				for range 4 {
					wantNew(t, shuffled(&d, samples[from:from+n]), bits(number, n), 1+d.below(api.MaxProcs))
				}
			}
		}
	}
}

func TestP12_1LongLists(t *testing.T) {
	var d dice
	for _, n := range []int{5, 20, api.MaxNodes - 1, api.MaxNodes} {
		for procs := 1; procs <= api.MaxProcs; procs++ {
			keys := shuffled(&d, ranked(n))
			wantNew(t, keys, all(n, true), procs)
			wantNew(t, keys, all(n, false), procs)
			wantNew(t, ranked(n), bits(d.below(1<<30), n), procs)
			wantNew(t, keys, bits(d.below(1<<30), n), procs)
		}
	}
	wantNew(t, samples, all(len(samples), true), 3)
}

// wantNewError also examines that the error is that of a list with locks.
func wantNewError(t *testing.T, keys []string, in []bool, n int, want api.Errno) {
	t.Helper()
	if l, err := New(keys, in, n); err != want || !isZero(l) {
		t.Errorf("New of %q, %v, %d is %v, %d, not the error %d", keys, in, n, l, err, want)
	}
	if _, err := locked.New(keys, in, n); err != want {
		t.Errorf("with locks New of %q, %v, %d has the error %d, not %d", keys, in, n, err, want)
	}
}

func TestP12_1TooManyKeys(t *testing.T) {
	for _, n := range []int{api.MaxNodes + 1, api.MaxNodes + 2, 1000} {
		wantNewError(t, ranked(n), all(n, true), 1, api.ErrLimit)
		wantNewError(t, ranked(n), all(n, false), api.MaxProcs, api.ErrLimit)
		// All other errors at once.
		wantNewError(t, slices.Repeat([]string{tooLong}, n), nil, 0, api.ErrLimit)
		wantNewError(t, slices.Repeat([]string{"a"}, n), all(n, true), math.MaxInt, api.ErrLimit)
	}
}

func TestP12_1NumberOfProcesses(t *testing.T) {
	for procs := 1; procs <= api.MaxProcs; procs++ {
		wantNew(t, []string{"b", "a"}, []bool{true, true}, procs)
		wantNew(t, nil, nil, procs)
	}
	for _, procs := range append([]int{-1, 0, api.MaxProcs + 1, api.MaxProcs + 2, -api.MaxProcs}, far...) {
		wantNewError(t, nil, nil, procs, api.ErrRange)
		wantNewError(t, []string{"b", "a"}, []bool{true, false}, procs, api.ErrRange)
		wantNewError(t, []string{"b", "a"}, []bool{true}, procs, api.ErrRange)
		wantNewError(t, []string{tooLong}, []bool{true}, procs, api.ErrRange)
		wantNewError(t, []string{"a", "a"}, []bool{true, true}, procs, api.ErrRange)
	}
}

func TestP12_1KeysThatAreNotValid(t *testing.T) {
	for _, key := range []string{tooLong, strings.Repeat("é", api.MaxKey/2) + "e", strings.Repeat("k", 1000)} {
		for _, in := range []bool{true, false} {
			wantNewError(t, []string{key}, []bool{in}, 1, api.ErrInvalid)
			wantNewError(t, []string{"a", key}, []bool{true, in}, 1, api.ErrInvalid)
			wantNewError(t, []string{key, "a", "b"}, []bool{in, false, true}, 1, api.ErrInvalid)
		}
		wantNewError(t, []string{key, "a", "a"}, all(3, true), 1, api.ErrInvalid)
		wantNewError(t, []string{"a", "a", key}, all(3, true), 1, api.ErrInvalid)
		wantNewError(t, []string{key, key}, all(2, true), 1, api.ErrInvalid)
	}
	for _, key := range []string{strings.Repeat("k", api.MaxKey), greatest, strings.Repeat("é", api.MaxKey/2), "\xff\x00\n"} {
		wantNew(t, []string{"b", key, "a"}, all(3, true), 1)
	}
}

func TestP12_1KeysAndInOfDifferentLengths(t *testing.T) {
	for n := range 5 {
		for k := range 5 {
			if n != k {
				wantNewError(t, ranked(n), all(k, true), 1, api.ErrInvalid)
				wantNewError(t, slices.Repeat([]string{"a"}, n), all(k, false), 1, api.ErrInvalid)
			}
		}
	}
	wantNewError(t, ranked(api.MaxNodes), all(api.MaxNodes+1, true), 1, api.ErrInvalid)
	wantNewError(t, ranked(api.MaxNodes), all(api.MaxNodes-1, true), 1, api.ErrInvalid)
	wantNewError(t, nil, all(1000, true), 1, api.ErrInvalid)
}

func TestP12_1EqualKeys(t *testing.T) {
	for _, key := range samples {
		for number := range 8 {
			wantNewError(t, []string{key, key, "other"}, bits(number, 3), 1, api.ErrDuplicate)
			wantNewError(t, []string{key, "other", key}, bits(number, 3), 1, api.ErrDuplicate)
			wantNewError(t, []string{"other", key, key}, bits(number, 3), api.MaxProcs, api.ErrDuplicate)
		}
	}
	for i := 1; i < api.MaxNodes; i++ {
		keys := ranked(api.MaxNodes)
		keys[i] = keys[i/2]
		wantNewError(t, keys, all(api.MaxNodes, i%2 == 0), 1, api.ErrDuplicate)
	}
}

func TestP12_5Members(t *testing.T) {
	// The cells d and h are out of the list; those of the others that are not Gone are members.
	base := func() api.List {
		return api.List{
			Cells: cells(member("", 3), member("", 0), member("m", 4), member("c", 2), member("x", 1), never("d"), gone("h", 2)),
			Procs: make([]api.Proc, 1),
		}
	}
	for _, y := range []struct {
		name   string
		change func(c []api.Cell)
		want   []int
	}{
		{"linked", func([]api.Cell) {}, []int{3, 2, 4}},
		{"a cell that is Gone, but linked", func(c []api.Cell) { c[2].Gone = true }, []int{3, 4}},
		{"all linked cells Gone", func(c []api.Cell) { c[2].Gone, c[3].Gone, c[4].Gone = true, true, true }, nil},
		{"to a cell that is Gone and was not linked", func(c []api.Cell) { c[3].Right = 6 }, []int{3, 2, 4}},
		{"to a cell that is Gone, and on to the tail", func(c []api.Cell) { c[3].Right, c[6].Right = 6, 1 }, []int{3}},
		{"from the head to a cell that is Gone", func(c []api.Cell) { c[0].Right = 6 }, []int{2, 4}},
		{"past a cell", func(c []api.Cell) { c[3].Right = 4 }, []int{3, 4}},
		{"past all cells", func(c []api.Cell) { c[0].Right = 1 }, nil},
		{"not in order", func(c []api.Cell) { c[0].Right, c[4].Right, c[2].Right, c[3].Right = 4, 2, 3, 1 }, []int{4, 2, 3}},
		{"to a cell with the Lock 0", func(c []api.Cell) { c[3].Right, c[5].Right = 5, 2 }, []int{3, 5, 2, 4}},
		{"to a cell that is not linked on", func(c []api.Cell) { c[3].Right = 5 }, []int{3, 5}},
		{"a circle of one cell", func(c []api.Cell) { c[2].Right = 2 }, []int{3, 2}},
		{"a circle of two cells", func(c []api.Cell) { c[4].Right = 2 }, []int{3, 2, 4}},
		{"a circle of all cells", func(c []api.Cell) { c[4].Right = 3 }, []int{3, 2, 4}},
		{"a circle with a cell that is Gone", func(c []api.Cell) { c[2].Right = 6 }, []int{3, 2}},
		{"a circle of a cell that is Gone", func(c []api.Cell) { c[3].Right, c[6].Right = 6, 6 }, []int{3}},
		{"a circle through the head", func(c []api.Cell) { c[2].Right = 0 }, []int{3, 2}},
		{"the head leads to itself", func(c []api.Cell) { c[0].Right = 0 }, nil},
		{"the tail leads on", func(c []api.Cell) { c[2].Right, c[1].Right = 1, 4 }, []int{3, 2}},
		{"the head and the tail are Gone", func(c []api.Cell) { c[0].Gone, c[1].Gone = true, true }, []int{3, 2, 4}},
		{"Locks do not matter", func(c []api.Cell) { c[0].Lock, c[2].Lock, c[3].Lock, c[5].Lock = 0, 0, 0, 1 }, []int{3, 2, 4}},
	} {
		l := base()
		y.change(l.Cells)
		if got := Members(l); !slices.Equal(got, y.want) {
			t.Errorf("%s: the members of %v are %v, not %v", y.name, l, got, y.want)
		}
	}
}

// membersInWords returns the cells from 2 on that are not Gone and that one comes across, as a walk of any length meets them.
func membersInWords(l api.List) []int {
	var out []int
	at := 0
	for range len(l.Cells) {
		at = l.Cells[at].Right
		if at == 1 {
			break
		}
		if at != 0 && !l.Cells[at].Gone && !slices.Contains(out, at) {
			out = append(out, at)
		}
	}
	return out
}

func TestP12_5MembersOfAnyLists(t *testing.T) {
	var d dice
	for range 20000 {
		l := d.list()
		if got, want := Members(l), membersInWords(l); !slices.Equal(got, want) {
			t.Fatalf("the members of %v are %v, not %v", l, got, want)
		}
	}
	for range 200 {
		l := d.filled(len(samples), api.MaxProcs)
		// Long walks are rare if any cell leads to any other one.
		order := shuffled(&d, []int{2, 3, 4, 5, 6, 7, 8, 9, 10, 11, 12, 13, 14})
		at := 0
		for _, next := range order[:d.below(len(order))] {
			l.Cells[at].Right = next
			at = next
		}
		if got, want := Members(l), membersInWords(l); !slices.Equal(got, want) {
			t.Fatalf("the members of %v are %v, not %v", l, got, want)
		}
	}
}

func TestP12_7Bound(t *testing.T) {
	l := made(t, []string{"b", "a", "c"}, []bool{true, true, false}, 3)
	for p, want := range []int{0, 1 * (2 + 2) * (5 + 2 + 3), 2 * (4 + 2) * (5 + 4 + 3), 3 * (6 + 2) * (5 + 6 + 3)} {
		if got := Bound(l); got != want {
			t.Errorf("with %d processes under way the bound is %d, not %d", p, got, want)
		}
		if p < 3 {
			l = begun(t, l, p, []int{api.OpFind, api.OpRemove, api.OpInsert}[p], 4)
		}
	}
	l.Procs[1].Phase = api.PhaseDone
	if got, want := Bound(l), 2*(4+2)*(5+4+3); got != want {
		t.Errorf("with a process that is done the bound is %d, not %d", got, want)
	}
	l.Cells[3].Gone = true
	if got, want := Bound(l), 2*(5+2)*(5+5+3); got != want {
		t.Errorf("with a cell that is Gone the bound is %d, not %d", got, want)
	}
	l.Cells[0].Gone, l.Cells[1].Gone, l.Cells[4].Gone = true, true, true
	if got, want := Bound(l), 2*(8+2)*(5+8+3); got != want {
		t.Errorf("with four cells that are Gone the bound is %d, not %d", got, want)
	}
}

func TestP12_7BoundOfAllSizesAndPhases(t *testing.T) {
	for _, n := range []int{0, 1, 7, api.MaxNodes} {
		l := made(t, ranked(n), all(n, true), api.MaxProcs)
		for gone := range n + 3 {
			if gone > 0 {
				l.Cells[gone-1].Gone = true
			}
			for _, phase := range phases {
				for m := range api.MaxProcs + 1 {
					// Those under way are the last ones.
					for p := range l.Procs {
						l.Procs[p] = api.Proc{}
						if p >= api.MaxProcs-m {
							l.Procs[p] = api.Proc{Kind: api.OpInsert + p%3, Phase: phase}
						}
					}
					s := 2*m + gone
					want := m * (s + 2) * (n + 2 + s + 3)
					if phase == api.PhaseDone {
						want = 0
					}
					if got := Bound(l); got != want {
						t.Errorf("the bound of %d keys, %d cells that are Gone and %d processes in the phase %d is %d, not %d", n, gone, m, phase, got, want)
					}
				}
			}
		}
	}
}

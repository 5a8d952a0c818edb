package locked

import (
	"math"
	"slices"
	"strconv"
	"strings"
	"testing"

	"skipgraph/api"
)

var (
	tooLong  = strings.Repeat("k", api.MaxKey+1)
	greatest = strings.Repeat("\xff", api.MaxKey)
)

// samples are valid keys in ascending order.
var samples = []string{"", "\x00", "A", "a", "a\x00", "aa", "b", "bb", "m", "z", "é", "\xff", greatest}

// far are numbers that are neither indices nor counts; the lowest 32 bits of some of them are.
var far = []int{1 << 32, 1<<32 + 1, 1<<32 + 2, -1 << 32, math.MinInt32, math.MaxInt32, math.MinInt, math.MaxInt}

// dice gives numbers that look as if they were thrown, the same ones in each run.
type dice uint64

// below returns a number from 0 to n - 1.
func (d *dice) below(n int) int {
	*d = *d*6364136223846793005 + 1442695040888963407
	return int(*d>>33) % n
}

func (d *dice) chance() bool { return d.below(2) == 0 }

// shuffled returns the elements of l in another order.
func shuffled[T any](d *dice, l []T) []T {
	out := slices.Clone(l)
	for i := range out {
		k := d.below(i + 1)
		out[i], out[k] = out[k], out[i]
	}
	return out
}

// ranked returns n keys in ascending order.
func ranked(n int) []string {
	var out []string
	for i := range n {
		out = append(out, "k"+strconv.Itoa(1000+i))
	}
	return out
}

// all returns n values b.
func all(n int, b bool) []bool { return slices.Repeat([]bool{b}, n) }

// bits returns the n lowest bits of a number.
func bits(number, n int) []bool {
	var out []bool
	for i := range n {
		out = append(out, number>>i&1 == 1)
	}
	return out
}

func member(key string, left, right int) api.Cell {
	return api.Cell{Key: key, Left: left, Right: right}
}

func gone(key string, left, right int) api.Cell {
	return api.Cell{Key: key, Left: left, Right: right, Gone: true}
}

func cells(l ...api.Cell) []api.Cell { return l }

func procs(l ...api.Proc) []api.Proc { return l }

func clone(l api.List) api.List {
	return api.List{Cells: slices.Clone(l.Cells), Procs: slices.Clone(l.Procs)}
}

func same(a, b api.List) bool {
	return slices.Equal(a.Cells, b.Cells) && slices.Equal(a.Procs, b.Procs)
}

func isZero(l api.List) bool { return len(l.Cells) == 0 && len(l.Procs) == 0 }

// made returns a list of New.
func made(t *testing.T, keys []string, in []bool, n int) api.List {
	t.Helper()
	l, err := New(keys, in, n)
	if err != api.OK {
		t.Fatalf("New of %q, %v, %d has the error %d", keys, in, n, err)
	}
	return l
}

// ranks returns the place of each cell in the order of all cells.
func ranks(l api.List) []int {
	out := []int{0, len(l.Cells) - 1}
	for _, c := range l.Cells[2:] {
		rank := 1
		for _, other := range l.Cells[2:] {
			if other.Key < c.Key {
				rank++
			}
		}
		out = append(out, rank)
	}
	return out
}

// inOrder returns those cells from 2 on that are not Gone, in ascending order of their keys.
func inOrder(l api.List) []int {
	at := make([]int, len(l.Cells))
	for i, rank := range ranks(l) {
		at[rank] = i
	}
	return slices.DeleteFunc(at, func(i int) bool { return i < 2 || l.Cells[i].Gone })
}

// linkedList returns the list that New has to return.
func linkedList(keys []string, in []bool, n int) api.List {
	l := api.List{Cells: make([]api.Cell, 2+len(keys)), Procs: make([]api.Proc, n)}
	for i, key := range keys {
		l.Cells[i+2] = gone(key, 0, 0)
		l.Cells[i+2].Gone = !in[i]
	}
	order := inOrder(l)
	for i, at := range order {
		l.Cells[at].Left = append([]int{0}, order...)[i]
		l.Cells[at].Right = append(slices.Clone(order), 1)[i+1]
	}
	l.Cells[0].Right = append(slices.Clone(order), 1)[0]
	l.Cells[1].Left = append([]int{0}, order...)[len(order)]
	return l
}

func wantNew(t *testing.T, keys []string, in []bool, n int) {
	t.Helper()
	l, err := New(keys, in, n)
	if want := linkedList(keys, in, n); err != api.OK || !same(l, want) {
		t.Fatalf("New of %q, %v, %d is %v, %d, not %v", keys, in, n, l, err, want)
	}
	if !Valid(l) || !Check(l) || Bound(l) != 0 {
		t.Fatalf("New of %q, %v, %d is %v, with which something is wrong", keys, in, n, l)
	}
}

func TestP11_1New(t *testing.T) {
	l := made(t, []string{"m", "", "z", "c"}, []bool{true, true, false, true}, 2)
	want := api.List{
		Cells: cells(member("", 0, 3), member("", 2, 0), member("m", 5, 1), member("", 0, 5), gone("z", 0, 0), member("c", 3, 2)),
		Procs: make([]api.Proc, 2),
	}
	if !same(l, want) {
		t.Errorf("the list is %v, not %v", l, want)
	}
	l = made(t, nil, nil, 1)
	if want := (api.List{Cells: cells(member("", 0, 1), member("", 0, 0)), Procs: make([]api.Proc, 1)}); !same(l, want) {
		t.Errorf("the list without keys is %v, not %v", l, want)
	}
	l = made(t, []string{"a"}, []bool{false}, 1)
	if want := cells(member("", 0, 1), member("", 0, 0), gone("a", 0, 0)); !slices.Equal(l.Cells, want) {
		t.Errorf("the cells of a key that is no member are %v, not %v", l.Cells, want)
	}
	l = made(t, []string{""}, []bool{true}, api.MaxProcs)
	if want := cells(member("", 0, 2), member("", 2, 0), member("", 0, 1)); !slices.Equal(l.Cells, want) || len(l.Procs) != api.MaxProcs {
		t.Errorf("the list of the empty key is %v", l)
	}
}

func TestP11_1AllShortLists(t *testing.T) {
	for n := range 5 {
		for from := 0; from+n <= len(samples); from++ {
			d := dice(from)
			for number := range 1 << n {
				for range 4 {
					wantNew(t, shuffled(&d, samples[from:from+n]), bits(number, n), 1+d.below(api.MaxProcs))
				}
			}
		}
	}
}

func TestP11_1LongLists(t *testing.T) {
	var d dice
	for _, n := range []int{5, 20, api.MaxNodes - 1, api.MaxNodes} {
		for procs := 1; procs <= api.MaxProcs; procs++ {
			keys := shuffled(&d, ranked(n))
			wantNew(t, keys, all(n, true), procs)
			wantNew(t, keys, all(n, false), procs)
			wantNew(t, ranked(n), bits(d.below(1<<30), n), procs)
			wantNew(t, keys, bits(d.below(1<<30), n), procs)
		}
	}
	wantNew(t, samples, all(len(samples), true), 3)
}

func wantNewError(t *testing.T, keys []string, in []bool, n int, want api.Errno) {
	t.Helper()
	if l, err := New(keys, in, n); err != want || !isZero(l) {
		t.Errorf("New of %q, %v, %d is %v, %d, not the error %d", keys, in, n, l, err, want)
	}
}

func TestP11_1TooManyKeys(t *testing.T) {
	for _, n := range []int{api.MaxNodes + 1, api.MaxNodes + 2, 1000} {
		wantNewError(t, ranked(n), all(n, true), 1, api.ErrLimit)
		wantNewError(t, ranked(n), all(n, false), api.MaxProcs, api.ErrLimit)
		// All other errors at once.
		wantNewError(t, slices.Repeat([]string{tooLong}, n), nil, 0, api.ErrLimit)
		wantNewError(t, slices.Repeat([]string{"a"}, n), all(n, true), math.MaxInt, api.ErrLimit)
	}
}

func TestP11_1NumberOfProcesses(t *testing.T) {
	for procs := 1; procs <= api.MaxProcs; procs++ {
		wantNew(t, []string{"b", "a"}, []bool{true, true}, procs)
	}
	for _, procs := range append([]int{-1, 0, api.MaxProcs + 1, api.MaxProcs + 2, -api.MaxProcs}, far...) {
		wantNewError(t, nil, nil, procs, api.ErrRange)
		wantNewError(t, []string{"b", "a"}, []bool{true, false}, procs, api.ErrRange)
		wantNewError(t, []string{"b", "a"}, []bool{true}, procs, api.ErrRange)
		wantNewError(t, []string{tooLong}, []bool{true}, procs, api.ErrRange)
		wantNewError(t, []string{"a", "a"}, []bool{true, true}, procs, api.ErrRange)
	}
}

func TestP11_1KeysThatAreNotValid(t *testing.T) {
	for _, key := range []string{tooLong, strings.Repeat("é", api.MaxKey/2) + "e", strings.Repeat("k", 1000)} {
		for _, in := range []bool{true, false} {
			wantNewError(t, []string{key}, []bool{in}, 1, api.ErrInvalid)
			wantNewError(t, []string{"a", key}, []bool{true, in}, 1, api.ErrInvalid)
			wantNewError(t, []string{key, "a", "b"}, []bool{in, false, true}, 1, api.ErrInvalid)
		}
		wantNewError(t, []string{key, "a", "a"}, all(3, true), 1, api.ErrInvalid)
		wantNewError(t, []string{"a", "a", key}, all(3, true), 1, api.ErrInvalid)
		wantNewError(t, []string{key, key}, all(2, true), 1, api.ErrInvalid)
	}
	for _, key := range []string{strings.Repeat("k", api.MaxKey), greatest, strings.Repeat("é", api.MaxKey/2), "\xff\x00\n"} {
		wantNew(t, []string{"b", key, "a"}, all(3, true), 1)
	}
}

func TestP11_1KeysAndInOfDifferentLengths(t *testing.T) {
	for n := range 5 {
		for k := range 5 {
			if n != k {
				wantNewError(t, ranked(n), all(k, true), 1, api.ErrInvalid)
				wantNewError(t, slices.Repeat([]string{"a"}, n), all(k, false), 1, api.ErrInvalid)
			}
		}
	}
	wantNewError(t, ranked(api.MaxNodes), all(api.MaxNodes+1, true), 1, api.ErrInvalid)
	wantNewError(t, ranked(api.MaxNodes), all(api.MaxNodes-1, true), 1, api.ErrInvalid)
	wantNewError(t, nil, all(1000, true), 1, api.ErrInvalid)
}

func TestP11_1EqualKeys(t *testing.T) {
	for _, key := range samples {
		for number := range 8 {
			wantNewError(t, []string{key, key, "other"}, bits(number, 3), 1, api.ErrDuplicate)
			wantNewError(t, []string{key, "other", key}, bits(number, 3), 1, api.ErrDuplicate)
			wantNewError(t, []string{"other", key, key}, bits(number, 3), api.MaxProcs, api.ErrDuplicate)
		}
	}
	for i := 1; i < api.MaxNodes; i++ {
		keys := ranked(api.MaxNodes)
		keys[i] = keys[i/2]
		wantNewError(t, keys, all(api.MaxNodes, i%2 == 0), 1, api.ErrDuplicate)
	}
}

func TestP11_5Members(t *testing.T) {
	l := made(t, []string{"m", "c", "x", "", "d"}, []bool{true, true, false, true, true}, 1)
	if got, want := Members(l), []int{5, 3, 6, 2}; !slices.Equal(got, want) {
		t.Errorf("the members are %v, not %v", got, want)
	}
	// Links and locks do not matter, nor do the head and the tail.
	l.Cells[0] = api.Cell{Right: 1, Gone: true, Lock: 1}
	l.Cells[1].Gone = true
	l.Cells[6].Left, l.Cells[6].Right, l.Cells[6].Lock = 6, 6, 1
	l.Cells[3].Gone = true
	if got, want := Members(l), []int{5, 6, 2}; !slices.Equal(got, want) {
		t.Errorf("the members are %v, not %v", got, want)
	}
	for _, n := range []int{0, 1, api.MaxNodes} {
		if got := Members(made(t, ranked(n), all(n, false), 1)); len(got) > 0 {
			t.Errorf("of %d cells that are Gone the members are %v", n, got)
		}
	}
}

func TestP11_5MembersOfAnyLists(t *testing.T) {
	var d dice
	for range 20000 {
		l := d.list()
		if got, want := Members(l), inOrder(l); !slices.Equal(got, want) {
			t.Fatalf("the members of %v are %v, not %v", l, got, want)
		}
	}
	l := made(t, shuffled(&d, ranked(api.MaxNodes)), all(api.MaxNodes, true), 1)
	for _, i := range shuffled(&d, inOrder(l)) {
		if got, want := Members(l), inOrder(l); !slices.Equal(got, want) {
			t.Fatalf("the members of %v are %v, not %v", l, got, want)
		}
		l.Cells[i].Gone = true
	}
}

func TestP11_7Bound(t *testing.T) {
	l := made(t, []string{"b", "a"}, []bool{true, true}, 3)
	for p, want := range []int{0, 1 * (2*9 + 6), 2 * (3*9 + 6), 3 * (4*9 + 6)} {
		if got := Bound(l); got != want {
			t.Errorf("with %d processes under way the bound is %d, not %d", p, got, want)
		}
		if p < 3 {
			l, _ = Start(l, p, api.OpInsert+p, 2)
		}
	}
	l.Procs[1].Phase = api.PhaseDone
	if got, want := Bound(l), 2*(3*9+6); got != want {
		t.Errorf("with a process that is done the bound is %d, not %d", got, want)
	}
}

func TestP11_7BoundOfAllSizesAndPhases(t *testing.T) {
	for _, n := range []int{0, 1, 7, api.MaxNodes} {
		l := made(t, ranked(n), all(n, true), api.MaxProcs)
		for _, phase := range phases {
			for m := range api.MaxProcs + 1 {
				// Those under way are the last ones.
				for p := range l.Procs {
					l.Procs[p] = api.Proc{}
					if p >= api.MaxProcs-m {
						l.Procs[p] = api.Proc{Kind: api.OpInsert + p%3, Phase: phase}
					}
				}
				want := m * ((m+1)*(n+2+5) + 6)
				if phase == api.PhaseDone {
					want = 0
				}
				if got := Bound(l); got != want {
					t.Errorf("the bound of %d keys and %d processes in the phase %d is %d, not %d", n, m, phase, got, want)
				}
			}
		}
	}
}

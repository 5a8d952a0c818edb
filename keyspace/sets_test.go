package keyspace

import (
	"slices"
	"strings"
	"testing"

	"skipgraph/api"
)

// The tests in this file compare the operations with those on sets of keys. They try every range between few bounds, some of
// which are not valid. The keys of all these bounds are among the samples, so two ranges that are not Empty contain the same
// samples exactly if they are equal.

var sampleBounds = []api.Bound{at(""), at("a"), at("a\x00"), at("b\xff"), at(longest), at(tooLong), top, topWith("a")}

var sampleKeys = []string{"", "\x00", "a", "a\x00", "a\x00\x00", "b", "b\xff", "c", longest, tooLong, "l", "\xff"}

func sampleRanges() []api.Range {
	var out []api.Range
	for _, lo := range sampleBounds {
		for _, hi := range sampleBounds {
			out = append(out, api.Range{Lo: lo, Hi: hi})
		}
	}
	return out
}

func inAny(l []api.Range, k string) bool {
	return slices.ContainsFunc(l, func(r api.Range) bool { return Contains(r, k) })
}

func inside(a, b api.Range) bool {
	return !slices.ContainsFunc(sampleKeys, func(k string) bool { return Contains(a, k) && !Contains(b, k) })
}

// apart reports whether the ranges are not Empty, ascend and leave keys between each other.
func apart(l []api.Range) bool {
	for i, r := range l {
		if Empty(r) || i > 0 && Compare(l[i-1].Hi, r.Lo) >= 0 {
			return false
		}
	}
	return true
}

func TestEqualKeysMeanEqualRanges(t *testing.T) {
	for _, a := range sampleRanges() {
		for _, b := range sampleRanges() {
			if !Empty(a) && !Empty(b) && (inside(a, b) && inside(b, a)) != (a == b) {
				t.Errorf("%#v and %#v", a, b)
			}
		}
	}
}

func TestPairsAreSets(t *testing.T) {
	for _, a := range sampleRanges() {
		for _, b := range sampleRanges() {
			both, hull, rest := Intersect(a, b), Hull(a, b), Subtract(a, b)
			if Empty(both) && both != zero || Empty(hull) && hull != zero || !apart(rest) || len(rest) > 2 {
				t.Errorf("%#v and %#v give %#v, %#v and %#v", a, b, both, hull, rest)
			}
			for _, k := range sampleKeys {
				inA, inB := Contains(a, k), Contains(b, k)
				if Contains(both, k) != (inA && inB) || (inA || inB) && !Contains(hull, k) || inAny(rest, k) != (inA && !inB) {
					t.Errorf("%#v and %#v give %#v, %#v and %#v, with the key %#v", a, b, both, hull, rest, k)
				}
			}
			for _, c := range sampleRanges() {
				if inside(a, c) && inside(b, c) && !inside(hull, c) {
					t.Errorf("Hull(%#v, %#v) = %#v, but %#v is less", a, b, hull, c)
				}
			}
		}
	}
}

func TestUnionsAreSets(t *testing.T) {
	ranges := sampleRanges()
	for _, a := range ranges {
		for _, b := range ranges {
			for _, c := range ranges {
				l := []api.Range{a, b, c}
				got := Union(l)
				if !apart(got) {
					t.Fatalf("Union(%#v) = %#v", l, got)
				}
				for _, k := range sampleKeys {
					if inAny(got, k) != inAny(l, k) {
						t.Fatalf("Union(%#v) = %#v, with the key %#v", l, got, k)
					}
				}
			}
		}
	}
}

func TestTilesHaveTheWholeAsUnion(t *testing.T) {
	ranges := sampleRanges()
	for _, r := range ranges {
		for _, a := range ranges {
			for _, b := range ranges {
				l := []api.Range{a, b}
				_, err := Tiles(l, r)
				want := !Empty(a) && !Empty(b) && Adjacent(a, b) && a.Lo == r.Lo && b.Hi == r.Hi && Valid(r)
				if (err == api.OK) != want || want && !slices.Equal(Union(l), []api.Range{r}) {
					t.Errorf("Tiles(%#v, %#v) gives %d", l, r, err)
				}
			}
		}
	}
}

func TestPrefixesAreSets(t *testing.T) {
	letters := []string{"", "\x00", "a", "\x7f", "\xef\xbf\xbd", "\xfe", "\xff"}
	var words []string
	for _, a := range letters {
		for _, b := range letters {
			for _, c := range letters {
				words = append(words, a+b+c)
			}
		}
	}
	for _, p := range words {
		r := Prefix(p)
		for _, k := range words {
			if Contains(r, k) != strings.HasPrefix(k, p) {
				t.Errorf("Prefix(%#v) = %#v, with the key %#v", p, r, k)
			}
		}
	}
}

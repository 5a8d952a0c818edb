// Package keyspace: bounds and ranges of keys.
package keyspace

import (
	"slices"

	"skipgraph/api"
)

// ValidKey reports whether k is short enough to be a key (P1.1).
func ValidKey(k string) bool { return len(k) <= api.MaxKey }

// ValidBound reports whether b is well-formed (P1.1).
func ValidBound(b api.Bound) bool {
	if b.Top {
		return b.Key == ""
	}
	return ValidKey(b.Key)
}

// Compare returns -1, 0 or 1 if a is below, equal to or above b (P1.1).
func Compare(a, b api.Bound) int {
	switch {
	case a.Top && b.Top:
		// A bound with Top lies above all keys, so a Key in it says nothing about its place.
		return 0
	case a.Top:
		return 1
	case b.Top:
		return -1
	case a.Key < b.Key:
		return -1
	case a.Key > b.Key:
		return 1
	default:
		return 0
	}
}

// Valid reports whether the bounds of r are well-formed and in order (P1.2).
func Valid(r api.Range) bool {
	return ValidBound(r.Lo) && ValidBound(r.Hi) && Compare(r.Lo, r.Hi) <= 0
}

// Empty reports whether r contains no keys, as one that is not valid does not (P1.2).
func Empty(r api.Range) bool { return !Valid(r) || Compare(r.Lo, r.Hi) == 0 }

// Contains reports whether k is a valid key in r (P1.2).
func Contains(r api.Range, k string) bool {
	at := api.Bound{Key: k}
	return !Empty(r) && ValidKey(k) && Compare(r.Lo, at) <= 0 && Compare(at, r.Hi) < 0
}

// Intersect returns the range of the keys that both a and b contain (P1.3).
func Intersect(a, b api.Range) api.Range {
	// The bounds of an Empty range would otherwise be taken for limits, although it contains nothing.
	if Empty(a) || Empty(b) {
		return api.Range{}
	}
	return orZero(api.Range{Lo: higher(a.Lo, b.Lo), Hi: lower(a.Hi, b.Hi)})
}

// Hull returns the least range that contains all keys of a and of b (P1.3).
func Hull(a, b api.Range) api.Range {
	switch {
	case Empty(a):
		return orZero(b)
	case Empty(b):
		return a
	default:
		return api.Range{Lo: lower(a.Lo, b.Lo), Hi: higher(a.Hi, b.Hi)}
	}
}

// Subtract returns the keys of a that b does not contain, ascending (P1.4).
func Subtract(a, b api.Range) []api.Range {
	// An Empty b takes nothing away; cutting a at its bounds would split a in two.
	if Empty(b) {
		return notEmpty(a)
	}
	if Empty(a) {
		return nil
	}
	return notEmpty(
		api.Range{Lo: a.Lo, Hi: lower(a.Hi, b.Lo)},
		api.Range{Lo: higher(a.Lo, b.Hi), Hi: a.Hi},
	)
}

// Adjacent reports whether b begins where a ends (P1.4).
func Adjacent(a, b api.Range) bool {
	return !Empty(a) && !Empty(b) && Compare(a.Hi, b.Lo) == 0
}

// Union returns the keys that some range of l contains, as few ranges in ascending order (P1.5).
func Union(l []api.Range) []api.Range {
	sorted := notEmpty(l...)
	slices.SortFunc(sorted, func(a, b api.Range) int { return Compare(a.Lo, b.Lo) })
	var out []api.Range
	for _, r := range sorted {
		last := len(out) - 1
		if last >= 0 && Compare(r.Lo, out[last].Hi) <= 0 {
			out[last].Hi = higher(out[last].Hi, r.Hi)
		} else {
			out = append(out, r)
		}
	}
	return out
}

// Prefix returns the range of all keys that begin with p (P1.5).
func Prefix(p string) api.Range {
	if !ValidKey(p) {
		return api.Range{}
	}
	return api.Range{Lo: api.Bound{Key: p}, Hi: after(p)}
}

// Tiles reports whether the ranges of l, in this order, tile r, and otherwise where and why not (P1.6).
func Tiles(l []api.Range, r api.Range) (int, api.Errno) {
	if !Valid(r) {
		return 0, api.ErrInvalid
	}
	position := r.Lo
	for i, x := range l {
		if err := tile(x, position, r.Hi); err != api.OK {
			return i, err
		}
		position = x.Hi
	}
	if Compare(position, r.Hi) < 0 {
		return len(l), api.ErrGap
	}
	return len(l), api.OK
}

// tile tells what is wrong with x as the next tile at position, where end is not to be passed.
func tile(x api.Range, position, end api.Bound) api.Errno {
	side := Compare(x.Lo, position)
	switch {
	case Empty(x):
		return api.ErrInvalid
	case side > 0:
		return api.ErrGap
	case side < 0:
		return api.ErrOverlap
	case Compare(x.Hi, end) > 0:
		return api.ErrRange
	default:
		return api.OK
	}
}

// after returns the least bound above all strings that begin with p.
func after(p string) api.Bound {
	// The loop looks at bytes, because the trimming functions of package strings would read the byte 255 as a rune.
	n := len(p)
	for n > 0 && p[n-1] == 255 {
		n--
	}
	if n == 0 {
		return api.Bound{Top: true}
	}
	next := []byte(p[:n])
	next[n-1]++
	return api.Bound{Key: string(next)}
}

func lower(a, b api.Bound) api.Bound {
	if Compare(b, a) < 0 {
		return b
	}
	return a
}

func higher(a, b api.Bound) api.Bound {
	if Compare(b, a) > 0 {
		return b
	}
	return a
}

func orZero(r api.Range) api.Range {
	if Empty(r) {
		return api.Range{}
	}
	return r
}

// notEmpty returns a new list, so that callers may sort it or give it away.
func notEmpty(l ...api.Range) []api.Range {
	var out []api.Range
	for _, r := range l {
		if !Empty(r) {
			out = append(out, r)
		}
	}
	return out
}

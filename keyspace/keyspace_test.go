package keyspace

import (
	"slices"
	"strings"
	"testing"

	"skipgraph/api"
)

var (
	longest = strings.Repeat("k", api.MaxKey)
	tooLong = longest + "k"
	top     = api.Bound{Top: true}
	all     = api.Range{Hi: top}
	zero    = api.Range{}
)

func at(k string) api.Bound { return api.Bound{Key: k} }

func topWith(k string) api.Bound { return api.Bound{Key: k, Top: true} }

func span(lo, hi string) api.Range { return api.Range{Lo: at(lo), Hi: at(hi)} }

func from(lo string) api.Range { return api.Range{Lo: at(lo), Hi: top} }

func TestP1_1ValidKey(t *testing.T) {
	for _, x := range []struct {
		key  string
		want bool
	}{
		{"", true}, {"a", true}, {"\xff\x00", true}, {longest, true}, {tooLong, false},
		// The limit counts bytes: 22 runes of 3 bytes are too long, 21 are not.
		{strings.Repeat("\u20ac", 21), true}, {strings.Repeat("\u20ac", 22), false},
	} {
		if got := ValidKey(x.key); got != x.want {
			t.Errorf("ValidKey(%#v) = %v", x.key, got)
		}
	}
}

func TestP1_1ValidBound(t *testing.T) {
	for _, x := range []struct {
		bound api.Bound
		want  bool
	}{
		{at(""), true}, {at("a"), true}, {at(longest), true}, {at(tooLong), false},
		{top, true}, {topWith("a"), false}, {topWith("\x00"), false}, {topWith(tooLong), false},
	} {
		if got := ValidBound(x.bound); got != x.want {
			t.Errorf("ValidBound(%#v) = %v", x.bound, got)
		}
	}
}

func TestP1_1Compare(t *testing.T) {
	// Every bound of a class is equal to those of its class, and below those of the classes behind it.
	classes := [][]api.Bound{
		{at("")}, {at("\x00")}, {at("Z")}, {at("a")}, {at("a\x00")}, {at("aa")}, {at("b")},
		{at(longest)}, {at(tooLong)}, {at("\xe2")}, {at("\xff")}, {at("\xff\xff")},
		{top, topWith("a"), topWith("z"), topWith(tooLong)},
	}
	for i, as := range classes {
		for k, bs := range classes {
			want := sign(i - k)
			for _, a := range as {
				for _, b := range bs {
					if got := Compare(a, b); got != want {
						t.Errorf("Compare(%#v, %#v) = %d, not %d", a, b, got, want)
					}
				}
			}
		}
	}
}

func sign(n int) int { return min(1, max(-1, n)) }

func TestP1_2ValidAndEmpty(t *testing.T) {
	for _, x := range []struct {
		r            api.Range
		valid, empty bool
	}{
		{all, true, false}, {span("a", "b"), true, false}, {span("", "\x00"), true, false},
		{span("a", "a\x00"), true, false}, {span("a", longest), true, false}, {from(longest), true, false},
		{zero, true, true}, {span("a", "a"), true, true}, {api.Range{Lo: top, Hi: top}, true, true},
		{span("b", "a"), false, true}, {api.Range{Lo: top, Hi: at("a")}, false, true}, {api.Range{Lo: top}, false, true},
		{span("a", tooLong), false, true}, {span(tooLong, "z"), false, true}, {from(tooLong), false, true},
		{api.Range{Lo: at("a"), Hi: topWith("b")}, false, true},
		{api.Range{Lo: topWith("a"), Hi: top}, false, true}, {api.Range{Lo: topWith("a"), Hi: topWith("a")}, false, true},
	} {
		if got := Valid(x.r); got != x.valid {
			t.Errorf("Valid(%#v) = %v", x.r, got)
		}
		if got := Empty(x.r); got != x.empty {
			t.Errorf("Empty(%#v) = %v", x.r, got)
		}
	}
}

func TestP1_2Contains(t *testing.T) {
	for _, x := range []struct {
		r    api.Range
		key  string
		want bool
	}{
		{span("a", "c"), "a", true}, {span("a", "c"), "b\xff\xff", true}, {span("a", "c"), "c", false},
		{span("a", "c"), "", false}, {span("a", "c"), "d", false}, {span("a", "a\x00"), "a", true},
		{all, "", true}, {all, "\xff", true}, {all, longest, true}, {all, tooLong, false},
		{span("a", "a"), "a", false}, {zero, "", false}, {span("c", "a"), "b", false},
		{api.Range{Lo: top, Hi: top}, "a", false},
		// Ranges that are not valid contain nothing, even where their bounds are in order.
		{api.Range{Lo: at("a"), Hi: topWith("z")}, "b", false}, {span("a", "z"+tooLong), "b", false},
	} {
		if got := Contains(x.r, x.key); got != x.want {
			t.Errorf("Contains(%#v, %#v) = %v", x.r, x.key, got)
		}
	}
}

func TestP1_3IntersectAndHull(t *testing.T) {
	tops := api.Range{Lo: top, Hi: top}
	keyed := api.Range{Lo: at("a"), Hi: topWith("z")}
	for _, x := range []struct{ a, b, both, hull api.Range }{
		{span("a", "m"), from("c"), span("c", "m"), from("a")},
		{span("a", "z"), span("c", "d"), span("c", "d"), span("a", "z")},
		{span("a", "m"), span("a", "m"), span("a", "m"), span("a", "m")},
		{span("a", "c"), span("c", "e"), zero, span("a", "e")},
		{span("a", "c"), span("x", "z"), zero, span("a", "z")},
		{all, from(longest), from(longest), all},
		{span("m", "m"), span("a", "z"), zero, span("a", "z")},
		{span("m", "m"), span("a", "b"), zero, span("a", "b")},
		{tops, span("a", "b"), zero, span("a", "b")},
		{span("z", "a"), span("c", "d"), zero, span("c", "d")},
		{keyed, span("c", "d"), zero, span("c", "d")},
		{span("a", tooLong), span("c", "d"), zero, span("c", "d")},
		{span("m", "m"), span("z", "a"), zero, zero},
		{tops, tops, zero, zero},
		{keyed, keyed, zero, zero},
	} {
		for _, pair := range [][2]api.Range{{x.a, x.b}, {x.b, x.a}} {
			if got := Intersect(pair[0], pair[1]); got != x.both {
				t.Errorf("Intersect(%#v) = %#v", pair, got)
			}
			if got := Hull(pair[0], pair[1]); got != x.hull {
				t.Errorf("Hull(%#v) = %#v", pair, got)
			}
		}
	}
}

func TestP1_4Subtract(t *testing.T) {
	for _, x := range []struct {
		a, b api.Range
		want []api.Range
	}{
		{span("a", "m"), span("c", "d"), []api.Range{span("a", "c"), span("d", "m")}},
		{all, span("c", "d"), []api.Range{span("", "c"), from("d")}},
		{span("a", "m"), span("a", "d"), []api.Range{span("d", "m")}},
		{span("a", "m"), span("", "d"), []api.Range{span("d", "m")}},
		{span("a", "m"), span("c", "m"), []api.Range{span("a", "c")}},
		{span("a", "m"), from("c"), []api.Range{span("a", "c")}},
		{span("a", "m"), span("a", "m"), nil},
		{span("a", "m"), all, nil},
		{span("c", "d"), span("a", "c"), []api.Range{span("c", "d")}},
		{span("c", "d"), span("d", "z"), []api.Range{span("c", "d")}},
		{span("c", "d"), from("x"), []api.Range{span("c", "d")}},
		// What is Empty or not valid takes nothing away, and gives nothing.
		{span("a", "m"), span("c", "c"), []api.Range{span("a", "m")}},
		{span("a", "m"), span("d", "c"), []api.Range{span("a", "m")}},
		{span("a", "m"), api.Range{Lo: at("c"), Hi: topWith("d")}, []api.Range{span("a", "m")}},
		{from("a"), api.Range{Lo: top, Hi: top}, []api.Range{from("a")}},
		{span("c", "c"), span("a", "m"), nil},
		{span("c", "c"), span("m", "a"), nil},
		{span("m", "a"), span("c", "d"), nil},
		{api.Range{Lo: at("a"), Hi: topWith("z")}, span("c", "d"), nil},
		{span("a", "z"+tooLong), span("c", "d"), nil},
	} {
		if got := Subtract(x.a, x.b); !slices.Equal(got, x.want) {
			t.Errorf("Subtract(%#v, %#v) = %#v", x.a, x.b, got)
		}
	}
}

func TestP1_4Adjacent(t *testing.T) {
	for _, x := range []struct {
		a, b api.Range
		want bool
	}{
		{span("a", "c"), span("c", "e"), true}, {span("a", "c"), from("c"), true},
		{span("c", "e"), span("a", "c"), false}, {span("a", "c"), span("d", "e"), false},
		{span("a", "d"), span("c", "e"), false}, {span("a", "c"), span("a", "c"), false},
		{span("a", "c"), span("c\x00", "e"), false}, {all, all, false},
		{span("a", "c"), span("c", "c"), false}, {span("c", "c"), span("c", "e"), false}, {zero, zero, false},
		{span("d", "c"), span("c", "e"), false}, {span("a", "c"), span("c", "b"), false},
		{from("a"), api.Range{Lo: top, Hi: top}, false}, {span("a", "c"), api.Range{Lo: at("c"), Hi: topWith("e")}, false},
		{span("a", tooLong), from(tooLong), false},
	} {
		if got := Adjacent(x.a, x.b); got != x.want {
			t.Errorf("Adjacent(%#v, %#v) = %v", x.a, x.b, got)
		}
	}
}

func TestP1_5Union(t *testing.T) {
	for _, x := range []struct{ l, want []api.Range }{
		{nil, nil},
		{[]api.Range{span("c", "d"), span("a", "b")}, []api.Range{span("a", "b"), span("c", "d")}},
		{[]api.Range{span("c", "d"), span("a", "c")}, []api.Range{span("a", "d")}},
		{[]api.Range{span("a", "c"), span("b", "d")}, []api.Range{span("a", "d")}},
		// A range inside a longer one must not end it early.
		{[]api.Range{span("a", "z"), span("b", "c"), span("d", "e")}, []api.Range{span("a", "z")}},
		{[]api.Range{span("a", "b"), span("a", "d"), span("a", "c")}, []api.Range{span("a", "d")}},
		{[]api.Range{from("b"), span("", "b")}, []api.Range{all}},
		{[]api.Range{from("x"), span("y", "z"), from("z")}, []api.Range{from("x")}},
		{[]api.Range{span("a", "b"), span("b\x00", "c")}, []api.Range{span("a", "b"), span("b\x00", "c")}},
		// What is Empty or not valid contains no keys, so it joins nothing.
		{[]api.Range{span("b", "b"), zero, {Lo: top, Hi: top}, span("c", "b")}, nil},
		{[]api.Range{{Lo: at("a"), Hi: topWith("b")}, span("a", tooLong), span("x", "y")}, []api.Range{span("x", "y")}},
		{[]api.Range{span("a", "c"), span("d", "b"), span("e", "f")}, []api.Range{span("a", "c"), span("e", "f")}},
	} {
		if got := Union(x.l); !slices.Equal(got, x.want) {
			t.Errorf("Union(%#v) = %#v", x.l, got)
		}
	}
}

func TestP1_5Prefix(t *testing.T) {
	full := strings.Repeat("\xff", api.MaxKey)
	for _, x := range []struct {
		p    string
		want api.Range
	}{
		{"", all}, {"ab", span("ab", "ac")}, {"a\x00", span("a\x00", "a\x01")}, {"a\xfe", span("a\xfe", "a\xff")},
		{"a\xff", span("a\xff", "b")}, {"a\xff\xff", span("a\xff\xff", "b")}, {"a\xffb", span("a\xffb", "a\xffc")},
		{"\xff", from("\xff")}, {"\xff\xff", from("\xff\xff")}, {full, from(full)},
		// The byte 127 becomes the single byte 128, and U+FFFD does not end in the byte 255.
		{"a\x7f", span("a\x7f", "a\x80")}, {"a\xef\xbf\xbd", span("a\xef\xbf\xbd", "a\xef\xbf\xbe")},
		{longest, span(longest, longest[1:]+"l")}, {full[1:] + "a", span(full[1:]+"a", full[1:]+"b")},
		{tooLong, zero}, {full + "\xff", zero},
	} {
		if got := Prefix(x.p); got != x.want {
			t.Errorf("Prefix(%#v) = %#v", x.p, got)
		}
	}
}

func TestP1_6Tiles(t *testing.T) {
	af := span("a", "f")
	tops := api.Range{Lo: top, Hi: top}
	for _, x := range []struct {
		l   []api.Range
		r   api.Range
		n   int
		err api.Errno
	}{
		{[]api.Range{af}, af, 1, api.OK},
		{[]api.Range{span("a", "c"), span("c", "f")}, af, 2, api.OK},
		{[]api.Range{span("", "m"), from("m")}, all, 2, api.OK},
		{nil, span("a", "a"), 0, api.OK}, {nil, zero, 0, api.OK}, {nil, tops, 0, api.OK},
		// A range r that is not valid is looked at before the ranges of l.
		{nil, span("b", "a"), 0, api.ErrInvalid}, {nil, api.Range{Lo: at("a"), Hi: topWith("f")}, 0, api.ErrInvalid},
		{[]api.Range{af}, span("f", "a"), 0, api.ErrInvalid}, {[]api.Range{af}, span("a", tooLong), 0, api.ErrInvalid},
		// Every range is checked before the next one, and its errors come in the order of the document.
		{[]api.Range{span("a", "c"), span("c", "c"), span("c", "f")}, af, 1, api.ErrInvalid},
		{[]api.Range{span("a", "a")}, span("a", "a"), 0, api.ErrInvalid},
		{[]api.Range{span("a", "c"), span("d", "d")}, af, 1, api.ErrInvalid},
		{[]api.Range{span("a", "c"), span("b", "a")}, af, 1, api.ErrInvalid},
		{[]api.Range{span("a", "c"), {Lo: at("c"), Hi: topWith("x")}}, af, 1, api.ErrInvalid},
		{[]api.Range{span("b", "c"), span("c", "c")}, af, 0, api.ErrGap},
		{[]api.Range{span("a", "c"), span("d", "f")}, af, 1, api.ErrGap},
		{[]api.Range{span("c", "f"), span("a", "c")}, af, 0, api.ErrGap},
		{[]api.Range{span("b", "z")}, af, 0, api.ErrGap},
		{[]api.Range{span("a", "c"), span("b", "f")}, af, 1, api.ErrOverlap},
		{[]api.Range{span("", "z")}, af, 0, api.ErrOverlap},
		{[]api.Range{span("a", "c"), span("a", "c")}, af, 1, api.ErrOverlap},
		{[]api.Range{span("a", "c"), span("c", "g")}, af, 1, api.ErrRange},
		{[]api.Range{from("a")}, af, 0, api.ErrRange},
		{[]api.Range{af, span("f", "g")}, af, 1, api.ErrRange},
		{[]api.Range{span("a", "b")}, span("a", "a"), 0, api.ErrRange},
		// The end is a gap only if the position has not reached it.
		{nil, af, 0, api.ErrGap}, {[]api.Range{span("a", "c"), span("c", "e")}, af, 2, api.ErrGap},
		{[]api.Range{span("a", "f")}, from("a"), 1, api.ErrGap},
	} {
		if n, err := Tiles(x.l, x.r); n != x.n || err != x.err {
			t.Errorf("Tiles(%#v, %#v) = %d, %d", x.l, x.r, n, err)
		}
	}
}

func TestR2ListsAreNeitherChangedNorShared(t *testing.T) {
	backing := []api.Range{span("c", "d"), span("x", "x"), span("a", "c"), span("s", "t"), span("p", "q")}
	before := slices.Clone(backing)
	l := backing[:3]
	union := Union(l)
	Tiles(l, span("a", "d"))
	if !slices.Equal(backing, before) {
		t.Errorf("the list was changed: %#v", backing)
	}
	single := []api.Range{span("a", "b"), span("p", "q")}
	other := Union(single[:1])
	_ = append(other[:1], zero)
	union[0], other[0] = zero, zero
	if !slices.Equal(backing, before) || single[0] != span("a", "b") || single[1] != span("p", "q") {
		t.Error("the result shares memory with the list")
	}
}

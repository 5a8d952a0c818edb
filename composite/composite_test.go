package composite

import (
	"math"
	"slices"
	"strings"
	"testing"

	"skipgraph/api"
	"skipgraph/keyspace"
)

var (
	null    = api.Field{}
	longest = strings.Repeat("x", api.MaxText)
	tooLong = longest + "x"
	zeros   = strings.Repeat("\x00", api.MaxText)
)

func num(n int64) api.Field { return api.Field{Kind: api.KindInt, Int: n} }

func text(s string) api.Field { return api.Field{Kind: api.KindText, Text: s} }

func list(l ...api.Field) []api.Field { return l }

// columns returns a schema: i and t are columns of numbers and texts, I and T descending ones.
func columns(letters string) []api.Column {
	var s []api.Column
	for _, c := range letters {
		kind := api.KindInt
		if c == 't' || c == 'T' {
			kind = api.KindText
		}
		s = append(s, api.Column{Kind: kind, Desc: c == 'I' || c == 'T'})
	}
	return s
}

func TestP2_1ValidSchema(t *testing.T) {
	for _, x := range []struct {
		s    []api.Column
		want bool
	}{
		{nil, false}, {[]api.Column{}, false}, {columns("i"), true}, {columns("t"), true}, {columns("I"), true}, {columns("T"), true},
		{columns("iItTiI"), true}, {columns("iItTiIt"), false},
		{[]api.Column{{}}, false}, {[]api.Column{{Kind: api.KindNull, Desc: true}}, false},
		{[]api.Column{{Kind: -1}}, false}, {[]api.Column{{Kind: 3}}, false},
		{append(columns("it"), api.Column{}), false}, {append([]api.Column{{Kind: 3}}, columns("it")...), false},
	} {
		if got := ValidSchema(x.s); got != x.want {
			t.Errorf("ValidSchema(%v) = %v", x.s, got)
		}
	}
}

func TestP2_1Fits(t *testing.T) {
	for _, x := range []struct {
		s    string
		l    []api.Field
		want bool
	}{
		{"it", list(num(1), text("a")), true}, {"IT", list(num(1), text("a")), true}, {"it", list(num(1)), true}, {"it", nil, true},
		{"it", list(null, null), true}, {"it", list(null, text("a")), true}, {"IT", list(num(1), null), true},
		{"i", list(num(0)), true}, {"i", list(num(math.MinInt64)), true}, {"i", list(num(math.MaxInt64)), true},
		{"t", list(text("")), true}, {"t", list(text(longest)), true}, {"t", list(text(zeros)), true}, {"T", list(text(longest)), true},
		{"t", list(text(tooLong)), false}, {"T", list(text(tooLong)), false}, {"t", list(text(strings.Repeat("\u20ac", 6))), false},
		{"it", list(num(1), text("a"), null), false}, {"i", list(null, null), false},
		{"it", list(text("a"), num(1)), false}, {"it", list(num(1), num(1)), false}, {"ti", list(null, text("a")), false},
		{"i", list(api.Field{Kind: api.KindInt, Text: "a"}), false}, {"i", list(api.Field{Kind: api.KindInt, Int: 1, Text: "a"}), false},
		{"t", list(api.Field{Kind: api.KindText, Int: 1}), false}, {"t", list(api.Field{Kind: api.KindText, Int: -1, Text: "a"}), false},
		// Only the zero Field is null.
		{"i", list(api.Field{Int: 1}), false}, {"t", list(api.Field{Text: "a"}), false},
		{"i", list(api.Field{Kind: 3}), false}, {"i", list(api.Field{Kind: -1}), false},
		{"", nil, false}, {"", list(null), false}, {"iiiiiii", list(num(1)), false},
	} {
		if got := Fits(columns(x.s), x.l); got != x.want {
			t.Errorf("Fits(%s, %#v) = %v", x.s, x.l, got)
		}
	}
	for _, kind := range []int{-1, api.KindNull, 3} {
		if Fits([]api.Column{{Kind: kind}}, list(api.Field{Kind: kind, Int: 1})) || Fits([]api.Column{{Kind: kind}}, list(null)) || Fits([]api.Column{{Kind: kind}}, nil) {
			t.Errorf("a list fits columns of the kind %d", kind)
		}
	}
}

// ascending returns, for some schemas, lists in ascending order.
func ascending() map[string][][]api.Field {
	most, least := num(math.MaxInt64), num(math.MinInt64)
	return map[string][][]api.Field{
		"i": {nil, list(null), list(least), list(num(-256)), list(num(-1)), list(num(0)), list(num(1)), list(num(255)), list(num(256)), list(most)},
		"I": {nil, list(most), list(num(256)), list(num(255)), list(num(1)), list(num(0)), list(num(-1)), list(num(-256)), list(least), list(null)},
		"t": {nil, list(null), list(text("")), list(text("\x00")), list(text("\x00\x00")), list(text("\x00\x01")), list(text("\x00\xff")), list(text("\x01")),
			list(text("a")), list(text("a\x00")), list(text("a\x00b")), list(text("a\x01")), list(text("aa")), list(text("b")), list(text(longest)), list(text("\xff")), list(text("\xff\xff"))},
		"T": {nil, list(text("\xff\xff")), list(text("\xff")), list(text("b")), list(text("aa")), list(text("a\x01")), list(text("a\x00b")), list(text("a\x00")), list(text("a")),
			list(text("\x01")), list(text("\x00\xff")), list(text("\x00\x01")), list(text("\x00\x00")), list(text("\x00")), list(text("")), list(null)},
		// A list is greater than the lists with which it begins, whatever the direction of its next column is.
		"tI": {nil, list(null), list(null, num(2)), list(null, num(1)), list(null, null), list(text("a")), list(text("a"), most), list(text("a"), null), list(text("a\x00"), num(5)), list(text("b"), num(9))},
		"Ti": {nil, list(text("b"), null), list(text("a\x00"), num(5)), list(text("a")), list(text("a"), null), list(text("a"), least), list(text("a"), most), list(text(""), num(1)), list(null), list(null, num(0))},
	}
}

func TestP2_2Compare(t *testing.T) {
	for s, l := range ascending() {
		for i, a := range l {
			for k, b := range l {
				if got := Compare(columns(s), a, b); got != sign(i-k) {
					t.Errorf("Compare(%s, %#v, %#v) = %d", s, a, b, got)
				}
			}
		}
	}
}

func sign(n int) int { return min(1, max(-1, n)) }

func TestP2_2CompareOfListsThatDoNotFit(t *testing.T) {
	for _, x := range []struct {
		s    []api.Column
		a, b []api.Field
	}{
		{columns("i"), list(text("a")), list(num(1))}, {columns("i"), list(text("a")), list(text("b"))}, {columns("i"), list(num(1)), list(num(1), num(2))},
		{columns("t"), nil, list(text(tooLong))}, {columns("it"), list(num(1), num(1)), list(num(2))}, {columns("i"), list(api.Field{Int: 1}), list(null)},
		{nil, nil, list(num(1))}, {nil, list(num(1)), list(num(2))}, {columns("iiiiiii"), list(num(1)), list(num(2))},
		{[]api.Column{{Kind: 3}}, nil, list(null)},
	} {
		if there, back := Compare(x.s, x.a, x.b), Compare(x.s, x.b, x.a); there != 0 || back != 0 {
			t.Errorf("Compare(%v, %#v, %#v) = %d, and %d the other way round", x.s, x.a, x.b, there, back)
		}
	}
}

func TestP2_3Encode(t *testing.T) {
	for _, x := range []struct {
		s    string
		l    []api.Field
		want []byte
	}{
		{"t", list(text("a")), []byte{3, 97, 0, 1}}, {"t", list(text("\x00")), []byte{3, 0, 255, 0, 1}}, {"t", list(text("")), []byte{3, 0, 1}},
		{"t", list(text("\xff\x01\x00a")), []byte{3, 255, 1, 0, 255, 97, 0, 1}}, {"t", list(text("\u20ac")), []byte{3, 226, 130, 172, 0, 1}},
		{"T", list(text("a\x00")), []byte{252, 158, 255, 0, 255, 254}}, {"T", list(text("\xff")), []byte{252, 0, 255, 254}},
		{"i", list(num(258)), []byte{2, 128, 0, 0, 0, 0, 0, 1, 2}}, {"i", list(num(0x0102030405060708)), []byte{2, 129, 2, 3, 4, 5, 6, 7, 8}},
		{"i", list(num(math.MinInt64)), []byte{2, 0, 0, 0, 0, 0, 0, 0, 0}}, {"i", list(num(math.MaxInt64)), []byte{2, 255, 255, 255, 255, 255, 255, 255, 255}},
		{"i", list(num(-1)), []byte{2, 127, 255, 255, 255, 255, 255, 255, 255}},
		{"I", list(num(-1)), []byte{253, 128, 0, 0, 0, 0, 0, 0, 0}}, {"I", list(num(0)), []byte{253, 127, 255, 255, 255, 255, 255, 255, 255}},
		{"i", list(null), []byte{1}}, {"T", list(null), []byte{254}}, {"it", nil, nil}, {"it", list(null), []byte{1}},
		// Only the bytes of the descending columns are complemented.
		{"iTi", list(null, text("a"), null), []byte{1, 252, 158, 255, 254, 1}}, {"TiT", list(null, null, null), []byte{254, 1, 254}},
	} {
		got, err := Encode(columns(x.s), x.l)
		if err != api.OK || got != string(x.want) {
			t.Errorf("Encode(%s, %#v) = %v, %d", x.s, x.l, []byte(got), err)
		}
	}
}

// full is a list whose encoding has MaxKey bytes.
func full() []api.Field {
	return list(text(longest), text(longest), text(longest), text("abcd"))
}

// over is a list whose encoding has one byte more.
func over() []api.Field {
	return list(text(longest), text(longest), text(longest), text("abcde"))
}

func TestP2_3EncodeLimits(t *testing.T) {
	for _, s := range []string{"tttt", "TTTT", "ttttt"} {
		if got, err := Encode(columns(s), full()); err != api.OK || len(got) != api.MaxKey {
			t.Errorf("Encode(%s) of a full list has %d bytes and %d", s, len(got), err)
		}
	}
	for _, x := range []struct {
		s   []api.Column
		l   []api.Field
		err api.Errno
	}{
		{columns("tttt"), over(), api.ErrLimit}, {columns("TTTT"), over(), api.ErrLimit}, {columns("ttttt"), append(full(), null), api.ErrLimit},
		// The limit counts the bytes that are added to the texts.
		{columns("tt"), list(text(zeros), text(zeros)), api.ErrLimit},
		// A list that does not fit is not measured.
		{columns("ttti"), over(), api.ErrInvalid}, {columns("tt"), list(text(zeros), text(zeros), null), api.ErrInvalid}, {columns("ttttt"), append(over(), num(1)), api.ErrInvalid},
		{columns("t"), list(text(tooLong)), api.ErrInvalid}, {columns("i"), list(text("a")), api.ErrInvalid}, {columns("i"), list(api.Field{Int: 1}), api.ErrInvalid},
		{nil, nil, api.ErrInvalid}, {nil, list(null), api.ErrInvalid}, {columns("iiiiiii"), nil, api.ErrInvalid}, {[]api.Column{{}}, list(null), api.ErrInvalid},
	} {
		if got, err := Encode(x.s, x.l); err != x.err || got != "" {
			t.Errorf("Encode(%v, %#v) = %#v, %d", x.s, x.l, got, err)
		}
		if got, err := Prefix(x.s, x.l); err != x.err || got != (api.Range{}) {
			t.Errorf("Prefix(%v, %#v) = %#v, %d", x.s, x.l, got, err)
		}
	}
}

func TestP2_4Decode(t *testing.T) {
	for _, x := range []struct {
		s   string
		key []byte
		l   []api.Field
	}{
		{"t", []byte{3, 0, 255, 0, 1}, list(text("\x00"))}, {"I", []byte{253, 128, 0, 0, 0, 0, 0, 0, 0}, list(num(-1))}, {"T", []byte{254}, list(null)},
		{"iTi", []byte{1, 252, 158, 255, 254, 1}, list(null, text("a"), null)}, {"i", []byte{2, 0, 0, 0, 0, 0, 0, 0, 0}, list(num(math.MinInt64))},
		// A byte 255 that follows no byte 0 stands for itself.
		{"t", []byte{3, 255, 1, 255, 0, 1}, list(text("\xff\x01\xff"))}, {"t", []byte{3, 0, 255, 255, 0, 1}, list(text("\x00\xff"))},
	} {
		if l, err := Decode(columns(x.s), string(x.key)); err != api.OK || !slices.Equal(l, x.l) {
			t.Errorf("Decode(%s, %v) = %#v, %d", x.s, x.key, l, err)
		}
	}
	for _, l := range [][]api.Field{full(), list(text(zeros)), list(text(longest), null, text(""))} {
		s := columns("tTtT")[:len(l)]
		key, _ := Encode(s, l)
		if got, err := Decode(s, key); err != api.OK || !slices.Equal(got, l) {
			t.Errorf("Decode(%v, %#v) = %#v, %d", s, key, got, err)
		}
	}
}

// written returns the encodings of texts in ascending columns without looking at any limit.
func written(texts ...string) string {
	var out strings.Builder
	for _, x := range texts {
		out.WriteString("\x03" + strings.ReplaceAll(x, "\x00", "\x00\xff") + "\x00\x01")
	}
	return out.String()
}

func TestP2_4DecodeErrors(t *testing.T) {
	for _, x := range []struct {
		s   []api.Column
		key string
		err api.Errno
	}{
		{nil, "", api.ErrInvalid}, {nil, strings.Repeat("x", api.MaxKey+1), api.ErrInvalid}, {columns("iiiiiii"), strings.Repeat("\x01", 7), api.ErrInvalid},
		{[]api.Column{{}}, "\x01", api.ErrInvalid}, {[]api.Column{{Kind: 3}}, "\x03", api.ErrInvalid},
		{columns("i"), "", api.ErrForm}, {columns("i"), "\x00", api.ErrForm}, {columns("i"), "\x04", api.ErrForm}, {columns("i"), "\xfe", api.ErrForm},
		{columns("i"), "\x02", api.ErrForm}, {columns("i"), "\x02" + strings.Repeat("\x00", 7), api.ErrForm}, {columns("I"), "\xfd" + strings.Repeat("\x00", 7), api.ErrForm},
		{columns("t"), "\x03", api.ErrForm}, {columns("t"), "\x03a", api.ErrForm}, {columns("t"), "\x03a\x00", api.ErrForm}, {columns("t"), "\x03a\x00\xff", api.ErrForm},
		{columns("t"), "\x03a\x00\x02", api.ErrForm}, {columns("t"), "\x03\x00\x00\x01", api.ErrForm}, {columns("t"), "\x03a\x01", api.ErrForm},
		// The kinds and directions of the columns are those of the schema.
		{columns("i"), "\x03a\x00\x01", api.ErrForm}, {columns("t"), "\x02" + strings.Repeat("\x00", 8), api.ErrForm},
		{columns("T"), "\x03a\x00\x01", api.ErrForm}, {columns("I"), "\x01", api.ErrForm}, {columns("t"), "\xfc\x9e\xff\xfe", api.ErrForm},
		// All columns have a field, and nothing follows.
		{columns("it"), "\x01", api.ErrForm}, {columns("it"), "\x02" + strings.Repeat("\x00", 8), api.ErrForm},
		{columns("i"), "\x01\x01", api.ErrForm}, {columns("i"), "\x02" + strings.Repeat("\x00", 9), api.ErrForm}, {columns("t"), "\x03a\x00\x01\x00", api.ErrForm},
		// A text that is too long is in no list, and a list that is too long has no encoding.
		{columns("t"), written(tooLong), api.ErrForm}, {columns("t"), written(zeros + "\x00"), api.ErrForm},
		{columns("tttt"), written(longest, longest, longest, "abcde"), api.ErrForm}, {columns("ttttt"), written(longest, longest, longest, "abcd") + "\x01", api.ErrForm},
		{columns("tt"), written(zeros, zeros), api.ErrForm},
	} {
		if l, err := Decode(x.s, x.key); err != x.err || len(l) > 0 {
			t.Errorf("Decode(%v, %#v) = %#v, %d", x.s, x.key, l, err)
		}
	}
}

func TestP2_5Prefix(t *testing.T) {
	top := api.Bound{Top: true}
	for _, x := range []struct {
		s      string
		l      []api.Field
		lo, hi api.Bound
	}{
		{"ti", list(text("a")), api.Bound{Key: "\x03a\x00\x01"}, api.Bound{Key: "\x03a\x00\x02"}},
		{"ii", list(num(-1)), api.Bound{Key: "\x02\x7f\xff\xff\xff\xff\xff\xff\xff"}, api.Bound{Key: "\x02\x80"}},
		{"ii", list(num(math.MaxInt64)), api.Bound{Key: "\x02\xff\xff\xff\xff\xff\xff\xff\xff"}, api.Bound{Key: "\x03"}},
		{"Ii", list(null), api.Bound{Key: "\xfe"}, api.Bound{Key: "\xff"}},
		{"T", list(text("")), api.Bound{Key: "\xfc\xff\xfe"}, api.Bound{Key: "\xfc\xff\xff"}},
		{"i", nil, api.Bound{}, top}, {"I", nil, api.Bound{}, top},
	} {
		if r, err := Prefix(columns(x.s), x.l); err != api.OK || r != (api.Range{Lo: x.lo, Hi: x.hi}) {
			t.Errorf("Prefix(%s, %#v) = %#v, %d", x.s, x.l, r, err)
		}
	}
	key, _ := Encode(columns("tttt"), full())
	if r, err := Prefix(columns("tttt"), full()); err != api.OK || r != keyspace.Prefix(key) {
		t.Errorf("Prefix of a full list is %#v, %d", r, err)
	}
}

func TestR2ListsAreNeitherChangedNorShared(t *testing.T) {
	schema, fields := columns("iTtI"), list(num(-5), text("a\x00"), text("b"), num(7))
	s, l := slices.Clone(schema)[:3], slices.Clone(fields)[:2]
	key, _ := Encode(s, l)
	Prefix(s, l)
	Compare(s, l, l[:1])
	Fits(s, l)
	one, _ := Decode(s[:2], key)
	one = append(one, num(1))
	one[0] = null
	two, err := Decode(s[:2], key)
	if err != api.OK || !slices.Equal(two, fields[:2]) {
		t.Errorf("results share memory: %#v", two)
	}
	if !slices.Equal(s[:4], schema) || !slices.Equal(l[:4], fields) {
		t.Errorf("arguments were changed: %v, %#v", s[:4], l[:4])
	}
}

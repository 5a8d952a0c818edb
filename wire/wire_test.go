package wire

import (
	"bytes"
	"math"
	"slices"
	"strings"
	"testing"

	"skipgraph/api"
)

// bytesOf returns the bytes of small numbers, strings and slices, one after another.
func bytesOf(parts ...any) []byte {
	var b []byte
	for _, p := range parts {
		switch p := p.(type) {
		case int:
			b = append(b, byte(p))
		case string:
			b = append(b, p...)
		case []byte:
			b = append(b, p...)
		}
	}
	return b
}

// many returns n bytes x.
func many(n int, x byte) []byte { return slices.Repeat([]byte{x}, n) }

type unsignedCase struct {
	n uint64
	b []byte
}

// unsigned returns numbers with their encodings: 0, the numbers around each power of 2^7, and the greatest ones.
func unsigned() []unsignedCase {
	l := []unsignedCase{{0, bytesOf(0)}, {1, bytesOf(1)}, {300, bytesOf(172, 2)}, {math.MaxUint32, bytesOf(many(4, 255), 15)}}
	for i := range 9 {
		power := uint64(1) << (7 * (i + 1))
		l = append(l,
			unsignedCase{power - 1, bytesOf(many(i, 255), 127)},
			unsignedCase{power, bytesOf(many(i+1, 128), 1)},
			unsignedCase{power + 1, bytesOf(129, many(i, 128), 1)})
	}
	return append(l, unsignedCase{math.MaxUint64 - 1, bytesOf(254, many(8, 255), 1)}, unsignedCase{math.MaxUint64, bytesOf(many(9, 255), 1)})
}

type signedCase struct {
	n int64
	b []byte
}

// signed returns numbers with their encodings: 0, those around the places where the encodings become longer, and the least
// and the greatest one.
func signed() []signedCase {
	l := []signedCase{{0, bytesOf(0)}, {-1, bytesOf(1)}, {1, bytesOf(2)}, {-2, bytesOf(3)}, {150, bytesOf(172, 2)}, {-151, bytesOf(173, 2)}}
	for i := range 9 {
		half := int64(1) << (7*i + 6)
		before := bytesOf(many(i, 255), 127)
		before[0]--
		l = append(l,
			signedCase{half - 1, before},
			signedCase{-half, bytesOf(many(i, 255), 127)},
			signedCase{half, bytesOf(many(i+1, 128), 1)},
			signedCase{-half - 1, bytesOf(129, many(i, 128), 1)})
	}
	return append(l, signedCase{math.MaxInt64, bytesOf(254, many(8, 255), 1)}, signedCase{math.MinInt64, bytesOf(many(9, 255), 1)})
}

// noNumbers returns bytes that do not begin with a number.
func noNumbers() [][]byte {
	return [][]byte{
		nil, {},
		// The number does not end.
		{128}, {255}, {128, 128}, {172, 130}, many(9, 128), many(9, 255),
		// There is a shorter encoding.
		{128, 0}, {255, 0}, {129, 128, 0}, {172, 130, 0}, bytesOf(many(9, 255), 0), bytesOf(many(8, 128), 0, 1),
		// The number is greater than 2^64 - 1.
		bytesOf(many(9, 128), 2), bytesOf(many(9, 255), 2), bytesOf(many(9, 255), 3), bytesOf(many(9, 255), 127), bytesOf(many(9, 128), 64),
		many(10, 128), many(10, 255), bytesOf(many(9, 255), 129), bytesOf(many(10, 128), 1), bytesOf(many(10, 128), 0), bytesOf(many(9, 255), 129, 0), many(100, 255),
	}
}

func TestP3_1AppendUint(t *testing.T) {
	for _, x := range unsigned() {
		for _, b := range [][]byte{nil, {}, {9}, {0, 255, 128}} {
			if got := AppendUint(b, x.n); !bytes.Equal(got, bytesOf(b, x.b)) {
				t.Errorf("AppendUint(%v, %d) = %v", b, x.n, got)
			}
		}
	}
}

func TestP3_1AppendInt(t *testing.T) {
	for _, x := range signed() {
		for _, b := range [][]byte{nil, {}, {9}, {0, 255, 128}} {
			if got := AppendInt(b, x.n); !bytes.Equal(got, bytesOf(b, x.b)) {
				t.Errorf("AppendInt(%v, %d) = %v", b, x.n, got)
			}
		}
	}
}

func TestP3_1AppendString(t *testing.T) {
	for _, x := range []struct {
		s string
		b []byte
	}{
		{"", bytesOf(0)}, {"ab", bytesOf(2, 97, 98)}, {"\x00", bytesOf(1, 0)}, {"\xff\x80", bytesOf(2, 255, 128)}, {"\u20ac", bytesOf(3, 226, 130, 172)},
		{strings.Repeat("x", 127), bytesOf(127, many(127, 'x'))}, {strings.Repeat("x", 128), bytesOf(128, 1, many(128, 'x'))},
		{strings.Repeat("x", 300), bytesOf(172, 2, many(300, 'x'))}, {strings.Repeat("x", 1<<14), bytesOf(128, 128, 1, many(1<<14, 'x'))},
	} {
		for _, b := range [][]byte{nil, {}, {9}, {0, 255, 128}} {
			if got := AppendString(b, x.s); !bytes.Equal(got, bytesOf(b, x.b)) {
				t.Errorf("AppendString(%v, %q) = %v", b, x.s, got)
			}
		}
	}
}

func TestP3_1ArgumentsStayAsTheyAre(t *testing.T) {
	for name, add := range map[string]func(b []byte, n int) []byte{
		"AppendUint":   func(b []byte, n int) []byte { return AppendUint(b, uint64(n)) },
		"AppendInt":    func(b []byte, n int) []byte { return AppendInt(b, int64(n)) },
		"AppendString": func(b []byte, n int) []byte { return AppendString(b, strings.Repeat("x", n)) },
	} {
		for _, size := range []int{0, 1, 3} {
			whole := many(64, 9)
			one, two := add(whole[:size], 1), add(whole[:size], 2)
			if !bytes.Equal(whole, many(64, 9)) {
				t.Errorf("%s changes its argument: %v", name, whole)
			}
			one, want := append(one, 7), bytes.Clone(two)
			clear(one[:cap(one)])
			if !bytes.Equal(whole, many(64, 9)) || !bytes.Equal(two, want) {
				t.Errorf("the result of %s shares its memory", name)
			}
		}
	}
}

func TestP3_2Uint(t *testing.T) {
	for _, x := range unsigned() {
		for _, behind := range [][]byte{nil, {0}, {255}, {7, 7}, many(20, 128)} {
			if n, size, err := Uint(bytesOf(x.b, behind)); n != x.n || size != len(x.b) || err != api.OK {
				t.Errorf("Uint of %d before %v: %d, %d, %d", x.n, behind, n, size, err)
			}
		}
		for i := range x.b {
			if n, size, err := Uint(x.b[:i]); n != 0 || size != 0 || err != api.ErrForm {
				t.Errorf("Uint(%v) = %d, %d, %d", x.b[:i], n, size, err)
			}
		}
	}
	for _, b := range noNumbers() {
		if n, size, err := Uint(b); n != 0 || size != 0 || err != api.ErrForm {
			t.Errorf("Uint(%v) = %d, %d, %d", b, n, size, err)
		}
	}
}

func TestP3_2Int(t *testing.T) {
	for _, x := range signed() {
		for _, behind := range [][]byte{nil, {0}, {255}, {7, 7}, many(20, 128)} {
			if n, size, err := Int(bytesOf(x.b, behind)); n != x.n || size != len(x.b) || err != api.OK {
				t.Errorf("Int of %d before %v: %d, %d, %d", x.n, behind, n, size, err)
			}
		}
		for i := range x.b {
			if n, size, err := Int(x.b[:i]); n != 0 || size != 0 || err != api.ErrForm {
				t.Errorf("Int(%v) = %d, %d, %d", x.b[:i], n, size, err)
			}
		}
	}
	for _, b := range noNumbers() {
		if n, size, err := Int(b); n != 0 || size != 0 || err != api.ErrForm {
			t.Errorf("Int(%v) = %d, %d, %d", b, n, size, err)
		}
	}
}

func TestP3_2String(t *testing.T) {
	for _, x := range []struct {
		b     []byte
		limit int
		s     string
		size  int
	}{
		{bytesOf(0), 0, "", 1}, {bytesOf(0), 1, "", 1}, {bytesOf(0, 0), math.MaxInt, "", 1},
		{bytesOf(2, "ab"), 2, "ab", 3}, {bytesOf(2, "ab"), 3, "ab", 3}, {bytesOf(2, "abc"), 2, "ab", 3}, {bytesOf(2, "ab", 128), math.MaxInt, "ab", 3},
		{bytesOf(2, 255, 128), 2, "\xff\x80", 3}, {bytesOf(1, 0), 1, "\x00", 2},
		{bytesOf(127, many(127, 'x')), 127, strings.Repeat("x", 127), 128}, {bytesOf(128, 1, many(128, 'x')), 128, strings.Repeat("x", 128), 130},
		{bytesOf(172, 2, many(301, 'x')), 300, strings.Repeat("x", 300), 302},
	} {
		if s, size, err := String(x.b, x.limit); s != x.s || size != x.size || err != api.OK {
			t.Errorf("String(%v, %d) = %q, %d, %d", x.b, x.limit, s, size, err)
		}
	}
}

func TestP3_2StringErrors(t *testing.T) {
	for _, x := range []struct {
		b     []byte
		limit int
		err   api.Errno
	}{
		{bytesOf(2, "ab"), 1, api.ErrLimit}, {bytesOf(2, "ab"), 0, api.ErrLimit}, {bytesOf(1, "a"), 0, api.ErrLimit}, {bytesOf(128, 1, many(128, 'x')), 127, api.ErrLimit},
		{bytesOf(0), -1, api.ErrLimit}, {bytesOf(0), math.MinInt, api.ErrLimit}, {bytesOf(2, "ab"), -1, api.ErrLimit}, {bytesOf(2, "ab"), -2, api.ErrLimit},
		{bytesOf(2, "a"), 2, api.ErrForm}, {bytesOf(2), 2, api.ErrForm}, {bytesOf(1), math.MaxInt, api.ErrForm}, {bytesOf(128, 1, many(127, 'x')), 128, api.ErrForm},
		// The length is examined before the bytes behind it.
		{bytesOf(2, "a"), 1, api.ErrLimit}, {bytesOf(9), 8, api.ErrLimit}, {bytesOf(9), -1, api.ErrLimit},
		// Lengths that are no numbers of bytes.
		{bytesOf(many(9, 255), 1), math.MaxInt, api.ErrLimit}, {bytesOf(many(9, 255), 1), -1, api.ErrLimit}, {bytesOf(many(9, 128), 1), math.MaxInt, api.ErrLimit},
		{bytesOf(many(8, 255), 127), math.MaxInt, api.ErrForm}, {bytesOf(many(8, 255), 127, "abc"), math.MaxInt, api.ErrForm}, {bytesOf(254, many(7, 255), 127), math.MaxInt, api.ErrForm},
		{bytesOf(many(8, 255), 127), math.MaxInt - 1, api.ErrLimit},
		// A length that is not the shortest one.
		{bytesOf(130, 0, "ab"), 2, api.ErrForm}, {bytesOf(128, 0), 0, api.ErrForm},
	} {
		if s, size, err := String(x.b, x.limit); s != "" || size != 0 || err != x.err {
			t.Errorf("String(%v, %d) = %q, %d, %d", x.b, x.limit, s, size, err)
		}
	}
	for _, b := range noNumbers() {
		for _, limit := range []int{math.MinInt, -1, 0, 64, math.MaxInt} {
			if s, size, err := String(b, limit); s != "" || size != 0 || err != api.ErrForm {
				t.Errorf("String(%v, %d) = %q, %d, %d", b, limit, s, size, err)
			}
		}
	}
}

package wire

import (
	"bytes"
	"encoding/binary"
	"math"
	"slices"
	"strings"
	"testing"

	"skipgraph/api"
)

// The tests in this file compare numbers with those of encoding/binary, whose format is the same but for encodings that are
// not the shortest ones, and try all short strings of the bytes that mean something, and all changes of one byte.

// words returns all strings of at most n of the bytes of letters.
func words(n int, letters ...byte) [][]byte {
	out := [][]byte{nil}
	for start, i := 0, 0; i < n; i++ {
		shorter := out[start:]
		start = len(out)
		for _, w := range shorter {
			for _, c := range letters {
				out = append(out, bytesOf(w, int(c)))
			}
		}
	}
	return out
}

// numbers returns all numbers of few bits, and numbers of many forms for each count of bits.
func numbers() []uint64 {
	var out []uint64
	for n := range uint64(1 << 15) {
		out = append(out, n)
	}
	for bit := range 64 {
		power := uint64(1) << bit
		for d := range uint64(4) {
			out = append(out, power+d, power-d, ^power-d, power|power>>7|d, power*2863311531+d, math.MaxUint64>>bit-d)
		}
	}
	return out
}

func TestP3_1NumbersAreThoseOfBinary(t *testing.T) {
	for _, n := range numbers() {
		if got := AppendUint(nil, n); !bytes.Equal(got, binary.AppendUvarint(nil, n)) {
			t.Errorf("AppendUint(nil, %d) = %v", n, got)
		}
		if got := AppendInt(nil, int64(n)); !bytes.Equal(got, binary.AppendVarint(nil, int64(n))) {
			t.Errorf("AppendInt(nil, %d) = %v", int64(n), got)
		}
	}
}

func TestP3_2NumbersAreThoseOfBinary(t *testing.T) {
	ends := words(3, 0, 1, 2, 63, 64, 127, 128, 129, 130, 255)
	for size := range 13 {
		for _, x := range []byte{128, 129, 192, 255} {
			for _, end := range ends {
				b := bytesOf(many(size, x), end)
				want, used := binary.Uvarint(b)
				err := api.OK
				if used <= 0 || len(binary.AppendUvarint(nil, want)) != used {
					want, used, err = 0, 0, api.ErrForm
				}
				if n, k, e := Uint(b); n != want || k != used || e != err {
					t.Errorf("Uint(%v) = %d, %d, %d", b, n, k, e)
				}
				signed := int64(0)
				if err == api.OK {
					signed, _ = binary.Varint(b)
				}
				if n, k, e := Int(b); n != signed || k != used || e != err {
					t.Errorf("Int(%v) = %d, %d, %d", b, n, k, e)
				}
			}
		}
	}
}

func TestP3_2StringsOfAllLengths(t *testing.T) {
	for size := range 300 {
		s := strings.Repeat("s", size)
		b := AppendString(nil, s)
		for _, limit := range []int{size, size + 1, math.MaxInt} {
			if got, used, err := String(append(b, 255), limit); got != s || used != len(b) || err != api.OK {
				t.Errorf("a string of %d bytes with the limit %d: %q, %d, %d", size, limit, got, used, err)
			}
		}
		for _, limit := range []int{size - 1, -1, math.MinInt} {
			if got, used, err := String(b, limit); got != "" || used != 0 || err != api.ErrLimit {
				t.Errorf("a string of %d bytes with the limit %d: %q, %d, %d", size, limit, got, used, err)
			}
		}
		for i := range b {
			if got, used, err := String(b[:i], size); got != "" || used != 0 || err != api.ErrForm {
				t.Errorf("%d bytes of a string of %d bytes: %q, %d, %d", i, size, got, used, err)
			}
		}
	}
}

func TestP3_1NoEncodingBeginsAnother(t *testing.T) {
	var ofUnsigned, ofSigned, ofStrings [][]byte
	for _, n := range numbers()[1<<15-300:] {
		ofUnsigned, ofSigned = append(ofUnsigned, AppendUint(nil, n)), append(ofSigned, AppendInt(nil, int64(n)))
	}
	for _, s := range words(4, 0, 1, 2, 255) {
		ofStrings = append(ofStrings, AppendString(nil, string(s)))
	}
	for _, l := range [][][]byte{ofUnsigned, ofSigned, ofStrings} {
		// In this order an encoding comes just before those that it begins; equal ones are of equal numbers.
		slices.SortFunc(l, bytes.Compare)
		l = slices.CompactFunc(l, bytes.Equal)
		for i := range len(l) - 1 {
			if bytes.HasPrefix(l[i+1], l[i]) {
				t.Errorf("%v begins with %v", l[i+1], l[i])
			}
		}
	}
}

// onlyEncodings tells whether what is decoded from b is encoded as b, or nothing is decoded with ErrForm.
func onlyEncodings[T any](b []byte, decode func([]byte) ([]T, api.Errno), encode func([]T) ([]byte, api.Errno)) bool {
	l, err := decode(b)
	if err != api.OK {
		return err == api.ErrForm && len(l) == 0
	}
	again, err := encode(l)
	return err == api.OK && bytes.Equal(again, b)
}

func TestP3_3DecodeNodesTakesOnlyEncodings(t *testing.T) {
	for _, b := range words(6, 0, 1, 2, 3, 4, 'a', 128, 129, 255) {
		if !onlyEncodings(b, DecodeNodes, EncodeNodes) {
			t.Errorf("%v is no encoding", b)
		}
	}
	for _, b := range changed(EncodeNodes(mixedNodes())) {
		if !onlyEncodings(b, DecodeNodes, EncodeNodes) {
			t.Errorf("%v is no encoding", b)
		}
	}
}

func TestP3_4DecodeLinksTakesOnlyEncodings(t *testing.T) {
	for _, b := range words(6, 0, 1, 2, 3, 4, 'a', 128, 129, 255) {
		if !onlyEncodings(b, DecodeLinks, EncodeLinks) {
			t.Errorf("%v is no encoding", b)
		}
	}
	for _, b := range changed(EncodeLinks(mixedLinks())) {
		if !onlyEncodings(b, DecodeLinks, EncodeLinks) {
			t.Errorf("%v is no encoding", b)
		}
	}
}

// changed returns the slices that differ from b in one byte, that have one byte less or one more.
func changed(b []byte, _ api.Errno) [][]byte {
	var out [][]byte
	for i := range b {
		out = append(out, bytesOf(b[:i], b[i+1:]))
		for c := range 256 {
			out = append(out, bytesOf(b[:i], c, b[i+1:]), bytesOf(b[:i], c, b[i:]))
		}
	}
	return out
}

func TestP3_3AllLengthsOfListsAndKeys(t *testing.T) {
	for n := range api.MaxNodes + 3 {
		l := make([]api.Node, n)
		for i := range l {
			l[i] = api.Node{ID: -i, Key: strings.Repeat("x", i%(api.MaxKey+1)), Word: uint32(i) << 25}
		}
		b, err := EncodeNodes(l)
		got, e := DecodeNodes(b)
		if n <= api.MaxNodes && (err != api.OK || e != api.OK || !slices.Equal(got, l)) || n > api.MaxNodes && (err != api.ErrLimit || len(b) > 0) {
			t.Errorf("%d nodes: %v, %d, %v, %d", n, b, err, got, e)
		}
		one := nodes(api.Node{ID: n, Key: strings.Repeat("x", n)})
		b, err = EncodeNodes(one)
		got, e = DecodeNodes(b)
		if n <= api.MaxKey && (err != api.OK || e != api.OK || !slices.Equal(got, one)) || n > api.MaxKey && (err != api.ErrLimit || len(b) > 0) {
			t.Errorf("a key of %d bytes: %v, %d, %v, %d", n, b, err, got, e)
		}
	}
}

func TestP3_4AllLengthsOfListsAndLevels(t *testing.T) {
	for n := range api.MaxNodes + 3 {
		l := make([]api.Linked, n)
		for i := range l {
			l[i] = api.Linked{ID: -i, Levels: make([]api.Link, i%(api.MaxLevels+2))}
			for k := range l[i].Levels {
				l[i].Levels[k] = api.Link{Left: i << k, Right: -k << i}
			}
		}
		b, err := EncodeLinks(l)
		got, e := DecodeLinks(b)
		if n <= api.MaxNodes && (err != api.OK || e != api.OK || !equal(got, l)) || n > api.MaxNodes && (err != api.ErrLimit || len(b) > 0) {
			t.Errorf("%d elements: %v, %d, %v, %d", n, b, err, got, e)
		}
		one := linked(api.Linked{ID: n, Levels: make([]api.Link, n)})
		b, err = EncodeLinks(one)
		got, e = DecodeLinks(b)
		if n <= api.MaxLevels+1 && (err != api.OK || e != api.OK || !equal(got, one)) || n > api.MaxLevels+1 && (err != api.ErrLimit || len(b) > 0) {
			t.Errorf("%d levels: %v, %d, %v, %d", n, b, err, got, e)
		}
	}
}

package composite

import (
	"slices"
	"strings"
	"testing"

	"skipgraph/api"
	"skipgraph/keyspace"
)

// The tests in this file try all lists of few fields for all schemas of one and two columns, and compare the results with what
// the places of the fields in their pool say.

// pool returns fields of a kind, in the order of an ascending column.
func pool(kind int) []api.Field {
	if kind == api.KindInt {
		return list(null, num(-1<<63), num(-1), num(0), num(1), num(255), num(256), num(1<<63-1))
	}
	return list(null, text(""), text("\x00"), text("\x00\x01"), text("\x00\xff"), text("\x01"), text("a"), text("a\x00"), text("a\x00\x01"), text("a\x01"),
		text("ab"), text("\xff"), text("\xff\x00"), text("\xff\xff"))
}

func schemas() []string {
	out := strings.Split("iItT", "")
	for _, a := range "iItT" {
		for _, b := range "iItT" {
			out = append(out, string(a)+string(b))
		}
	}
	return out
}

// lists returns the lists of at most as many fields of the pools as s has columns.
func lists(s []api.Column) [][]api.Field {
	out := [][]api.Field{nil}
	for start, i := 0, 0; i < len(s); i++ {
		shorter := out[start:]
		start = len(out)
		for _, l := range shorter {
			for _, f := range pool(s[i].Kind) {
				out = append(out, append(slices.Clone(l), f))
			}
		}
	}
	return out
}

// placed compares lists by the places of their fields in the pools.
func placed(s []api.Column, a, b []api.Field) int {
	for i := range min(len(a), len(b)) {
		p := pool(s[i].Kind)
		n := slices.Index(p, a[i]) - slices.Index(p, b[i])
		if s[i].Desc {
			n = -n
		}
		if n != 0 {
			return sign(n)
		}
	}
	return sign(len(a) - len(b))
}

func TestKeysAreInTheOrderOfTheirLists(t *testing.T) {
	for _, x := range schemas() {
		s := columns(x)
		all := lists(s)
		var keys []string
		for _, l := range all {
			key, err := Encode(s, l)
			if err != api.OK {
				t.Fatalf("Encode(%s, %#v) gives %d", x, l, err)
			}
			keys = append(keys, key)
		}
		for i, a := range all {
			for k, b := range all {
				want := placed(s, a, b)
				if Compare(s, a, b) != want || strings.Compare(keys[i], keys[k]) != want {
					t.Errorf("%s: %#v and %#v are not in order", x, a, b)
				}
			}
		}
	}
}

func TestKeysAreInThePrefixesOfTheirFirstFields(t *testing.T) {
	for _, x := range schemas() {
		s := columns(x)
		all := lists(s)
		for _, first := range all {
			r, err := Prefix(s, first)
			if err != api.OK {
				t.Fatalf("Prefix(%s, %#v) gives %d", x, first, err)
			}
			for _, l := range all {
				if len(l) < len(s) {
					continue
				}
				key, _ := Encode(s, l)
				if keyspace.Contains(r, key) != slices.Equal(l[:len(first)], first) {
					t.Errorf("%s: the prefix of %#v with the key of %#v", x, first, l)
				}
			}
		}
	}
}

func TestDecodeInvertsEncode(t *testing.T) {
	for _, x := range schemas() {
		s := columns(x)
		for _, l := range lists(s) {
			key, _ := Encode(s, l)
			got, err := Decode(s, key)
			if len(l) == len(s) && (err != api.OK || !slices.Equal(got, l)) || len(l) < len(s) && (err != api.ErrForm || len(got) > 0) {
				t.Errorf("Decode(%s, %#v) = %#v, %d", x, key, got, err)
			}
		}
	}
}

// TestDecodeTakesOnlyKeys tries all short strings of the bytes that mean something: what is decoded must be encoded alike.
func TestDecodeTakesOnlyKeys(t *testing.T) {
	words := []string{""}
	for start, n := 0, 0; n < 5; n++ {
		shorter := words[start:]
		start = len(words)
		for _, w := range shorter {
			for _, b := range []byte{0, 1, 2, 3, 'a', 252, 253, 254, 255} {
				words = append(words, w+string([]byte{b}))
			}
		}
	}
	for _, x := range schemas() {
		s := columns(x)
		for _, w := range words {
			l, err := Decode(s, w)
			if err == api.ErrForm && len(l) == 0 {
				continue
			}
			if key, e := Encode(s, l); err != api.OK || len(l) != len(s) || e != api.OK || key != w {
				t.Errorf("Decode(%s, %#v) = %#v, %d", x, w, l, err)
			}
		}
	}
}

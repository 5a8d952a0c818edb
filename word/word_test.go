package word

import (
	"math"
	"math/big"
	"testing"

	"skipgraph/api"
)

// sampleWords returns 0 and the greatest words of MaxLevels bits and of 32 bits, the words of one bit, those of all bits but
// one, those around each power of 2, and some of mixed bits.
func sampleWords() []uint32 {
	l := []uint32{0, 1<<api.MaxLevels - 1, 1 << api.MaxLevels, math.MaxUint32, 0x5555, 0xaaaa, 0x1234abcd, 0x80018001}
	for i := range 32 {
		power := uint32(1) << i
		l = append(l, power, ^power, power-1, power+1)
	}
	return l
}

// sampleLevels returns numbers of bits and levels: the least and the greatest ones, those that agree with a small one in their
// lowest bits, and all those around 0 and MaxLevels.
func sampleLevels() []int {
	l := []int{math.MinInt, math.MinInt + 1, -1 << 32, 1<<32 - 1, 1 << 32, 1<<32 + 1, 256, -256, math.MaxInt - 1, math.MaxInt}
	for i := -70; i <= 70; i++ {
		l = append(l, i)
	}
	return l
}

// digits returns the bits of w that matter, each as found by dividing.
func digits(w uint32) [api.MaxLevels]int {
	var out [api.MaxLevels]int
	for i := range out {
		out[i] = int(w % 2)
		w /= 2
	}
	return out
}

// agreeing returns how many of the first digits of a and b are equal.
func agreeing(a, b uint32) int {
	x, y := digits(a), digits(b)
	for i := range x {
		if x[i] != y[i] {
			return i
		}
	}
	return api.MaxLevels
}

func TestP4_1Valid(t *testing.T) {
	for _, x := range []struct {
		w    uint32
		want bool
	}{
		{0, true}, {1, true}, {2, true}, {1 << 15, true}, {1<<16 - 2, true}, {1<<16 - 1, true},
		{1 << 16, false}, {1<<16 + 1, false}, {1<<17 - 1, false}, {1 << 31, false}, {math.MaxInt32, false}, {1<<32 - 2, false}, {1<<32 - 1, false},
	} {
		if Valid(x.w) != x.want {
			t.Errorf("Valid(%d) = %t", x.w, !x.want)
		}
	}
	for i := range 32 {
		if Valid(1<<i) != (i < api.MaxLevels) || Valid(1|1<<i) != (i < api.MaxLevels) {
			t.Errorf("Valid of the bit %d is wrong", i)
		}
	}
}

func TestP4_1Bit(t *testing.T) {
	for _, x := range []struct {
		w       uint32
		i, want int
	}{
		{5, 0, 1}, {5, 1, 0}, {5, 2, 1}, {5, 3, 0}, {0, 0, 0}, {0, 15, 0}, {1 << 15, 15, 1}, {1 << 15, 14, 0}, {1<<16 - 1, 0, 1}, {1<<16 - 1, 15, 1},
		{1 << 16, 16, 0}, {1 << 16, 0, 0}, {1 << 16, 15, 0}, {math.MaxUint32, 15, 1}, {math.MaxUint32, 16, 0}, {math.MaxUint32, 31, 0}, {math.MaxUint32, 32, 0},
		{math.MaxUint32, -1, 0}, {1, -1, 0}, {math.MaxUint32, math.MinInt, 0}, {math.MaxUint32, math.MaxInt, 0}, {math.MaxUint32, 1 << 32, 0},
	} {
		if got := Bit(x.w, x.i); got != x.want {
			t.Errorf("Bit(%d, %d) = %d", x.w, x.i, got)
		}
	}
	for _, w := range sampleWords() {
		for _, i := range sampleLevels() {
			want := 0
			if i >= 0 && i < api.MaxLevels {
				want = digits(w)[i]
			}
			if got := Bit(w, i); got != want {
				t.Errorf("Bit(%d, %d) = %d", w, i, got)
			}
		}
	}
}

func TestP4_1Common(t *testing.T) {
	for _, x := range []struct {
		a, b uint32
		want int
	}{
		{5, 1, 2}, {0, 0, 16}, {7, 7, 16}, {0, 1, 0}, {6, 2, 2}, {2, 1, 0}, {0, 1 << 15, 15}, {1<<16 - 1, 1<<15 - 1, 15}, {0, 1<<16 - 1, 0},
		// Here the words differ only from MaxLevels on.
		{0, 1 << 16, 16}, {0, 1 << 17, 16}, {3, 3 | 1<<31, 16}, {1<<16 - 1, math.MaxUint32, 16}, {math.MaxUint32, math.MaxUint32, 16}, {1 << 31, 1 << 16, 16},
		// Here they differ below and above.
		{0, math.MaxUint32, 0}, {0, 1<<31 | 1<<4, 4}, {1 << 16, 1 << 15, 15},
	} {
		if got, other := Common(x.a, x.b), Common(x.b, x.a); got != x.want || other != x.want {
			t.Errorf("Common(%d, %d) = %d, and %d in the other order", x.a, x.b, got, other)
		}
	}
}

func TestP4_1WordsThatDifferInOneBit(t *testing.T) {
	for _, w := range sampleWords() {
		for i := range 32 {
			want := min(i, api.MaxLevels)
			if got := Common(w, w^1<<i); got != want {
				t.Errorf("Common(%d, %d) = %d", w, w^1<<i, got)
			}
			// What is above the bit does not matter.
			if got := Common(w, w^math.MaxUint32<<i); got != want {
				t.Errorf("Common(%d, %d) = %d", w, w^math.MaxUint32<<i, got)
			}
		}
	}
}

func TestP4_1CommonAndSameOfAllPairs(t *testing.T) {
	for _, a := range sampleWords() {
		for _, b := range sampleWords() {
			n := agreeing(a, b)
			if got := Common(a, b); got != n {
				t.Errorf("Common(%d, %d) = %d", a, b, got)
			}
			for _, level := range sampleLevels() {
				if got := Same(a, b, level); got != (level <= n) {
					t.Errorf("Same(%d, %d, %d) = %t", a, b, level, got)
				}
			}
		}
	}
}

func TestP4_1Same(t *testing.T) {
	for _, x := range []struct {
		a, b  uint32
		level int
		want  bool
	}{
		{5, 1, 2, true}, {5, 1, 3, false}, {5, 1, -1, true}, {0, 1, 0, true}, {0, 1, 1, false}, {0, 1, math.MinInt, true}, {0, 1 << 15, 15, true}, {0, 1 << 15, 16, false},
		// Equal words, and words that are equal below MaxLevels.
		{7, 7, 16, true}, {7, 7, 17, false}, {7, 7, 32, false}, {7, 7, math.MaxInt, false}, {0, 1 << 16, 16, true}, {0, 1 << 16, 17, false}, {3, 3 | 1<<31, 16, true},
	} {
		if got, other := Same(x.a, x.b, x.level), Same(x.b, x.a, x.level); got != x.want || other != x.want {
			t.Errorf("Same(%d, %d, %d) = %t, and %t in the other order", x.a, x.b, x.level, got, other)
		}
	}
}

func TestP4_1SameIsAnEquivalence(t *testing.T) {
	words := []uint32{0, 1, 2, 3, 5, 1 << 15, 1<<15 | 1, 1 << 16, 1<<16 | 2, 1<<16 - 1, math.MaxUint32}
	for level := -2; level <= api.MaxLevels; level++ {
		for _, a := range words {
			if !Same(a, a, level) {
				t.Errorf("%d is not the Same as itself at %d", a, level)
			}
			for _, b := range words {
				// At the next level the bit that is numbered by this one decides.
				next := Same(a, b, level) && Bit(a, level) == Bit(b, level)
				if level < api.MaxLevels && Same(a, b, level+1) != next {
					t.Errorf("%d and %d at %d and the next level", a, b, level)
				}
				for _, c := range words {
					if Same(a, b, level) && Same(b, c, level) && !Same(c, a, level) {
						t.Errorf("%d, %d and %d at %d", a, b, c, level)
					}
				}
			}
		}
	}
}

func TestP4_2FirstNumbers(t *testing.T) {
	for _, x := range []struct {
		seed uint64
		// The first numbers of splitmix64, as they are published.
		numbers []uint64
	}{
		{0, []uint64{0xe220a8397b1dcdaf, 0x6e789e6aa1b965f4, 0x06c45d188009454f, 0xf88bb8a8724c81ec}},
		{1234567, []uint64{6457827717110365317, 3203168211198807973, 9817491932198370423, 4593380528125082431, 16408922859458223821}},
	} {
		for n, number := range x.numbers {
			if got := Draw(x.seed, n); got != uint32(number%(1<<api.MaxLevels)) {
				t.Errorf("Draw(%d, %d) = %d", x.seed, n, got)
			}
		}
	}
}

// mixed returns (x xor (x / 2^shift)) * factor modulo 2^64.
func mixed(x *big.Int, shift uint, factor uint64) *big.Int {
	quotient := new(big.Int).Rsh(x, shift)
	product := new(big.Int).Mul(quotient.Xor(x, quotient), new(big.Int).SetUint64(factor))
	return product.Mod(product, new(big.Int).Lsh(big.NewInt(1), 64))
}

// drawn computes what Draw promises with whole numbers of any size.
func drawn(seed uint64, n int) uint32 {
	s := new(big.Int).Add(big.NewInt(int64(n)), big.NewInt(1))
	s.Mul(s, new(big.Int).SetUint64(11400714819323198485))
	s.Add(s, new(big.Int).SetUint64(seed))
	s.Mod(s, new(big.Int).Lsh(big.NewInt(1), 64))
	y := mixed(mixed(s, 30, 13787848793156543929), 27, 10723151780598845931)
	return uint32(mixed(y, 31, 1).Uint64() % (1 << api.MaxLevels))
}

func TestP4_2Draw(t *testing.T) {
	seeds := []uint64{0, 1, 2, 7, 99, 1 << 16, 1 << 32, math.MaxInt64, 1 << 63, math.MaxUint64 - 1, math.MaxUint64, 11400714819323198485, 7046029254386353131}
	places := []int{math.MinInt, math.MinInt + 1, math.MinInt32, -1 << 16, 1 << 16, math.MaxInt32, math.MaxUint32, 1 << 33, math.MaxInt - 1, math.MaxInt}
	for n := -100; n <= 300; n++ {
		places = append(places, n)
	}
	for _, seed := range seeds {
		for _, n := range places {
			if got := Draw(seed, n); got != drawn(seed, n) || !Valid(got) {
				t.Errorf("Draw(%d, %d) = %d", seed, n, got)
			}
		}
	}
}

func TestP4_2NumbersFollowOneAnother(t *testing.T) {
	step := uint64(11400714819323198485)
	for _, n := range []int{math.MinInt, -3, -1, 0, 1, 1000, math.MaxInt - 1} {
		for _, seed := range []uint64{0, 7, math.MaxUint64} {
			if Draw(seed, n+1) != Draw(seed+step, n) {
				t.Errorf("Draw(%d, %d) is not the next number", seed, n+1)
			}
		}
	}
	// Modulo 2^64, the least n is the one after the greatest.
	if Draw(5-step, math.MinInt) != Draw(5, math.MaxInt) {
		t.Error("the least n does not follow the greatest one")
	}
	// The number -1 of the seed 0 mixes 0, which stays 0.
	if got := Draw(0, -1); got != 0 {
		t.Errorf("Draw(0, -1) = %d", got)
	}
}

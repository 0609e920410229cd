package booth_test

import (
	"fmt"
	"math"
	"math/big"
	"slices"
	"testing"

	"slipstick/booth"
	"slipstick/build"
	"slipstick/nat"
	"slipstick/probe"
)

// lay is how words are laid of others.
type lay func(b *build.B, words [][]int) [][]int

// one is a word of a bit.
func one(bit int) []int { return []int{bit} }

// holds holds the words that are laid of others, of these widths, against what they must be.
func holds(t *testing.T, call string, ins, wides []int, how lay, want func(words [][]int) [][]int) {
	t.Helper()
	c := probe.Case[*build.B]{New: build.New, Ins: ins, Wides: wides, Lay: how, Want: want}
	if fault := c.Amiss(probe.Some(ins...)); fault != "" {
		t.Errorf("%s: %s", call, fault)
	}
}

// number is a word's number, of any size.
func number(word []int) *big.Int {
	v := new(big.Int)
	for k, bit := range word {
		v.SetBit(v, k, uint(bit))
	}
	return v
}

// word is the lowest bits of a number, of either sign.
func word(v *big.Int, width int) []int {
	v = new(big.Int).Mod(v, new(big.Int).Lsh(big.NewInt(1), uint(width)))
	w := make([]int, width)
	for k := range w {
		w[k] = int(v.Bit(k))
	}
	return w
}

// digit is a digit by the document's words.
func digit(y []int, i int) int {
	at := func(k int) int {
		if k < 0 || k >= len(y) {
			return 0
		}
		return y[k]
	}
	return at(2*i-1) + at(2*i) - 2*at(2*i+1)
}

// P16.1

func TestDigits(t *testing.T) {
	for n, want := range []int{1, 1, 2, 2, 3, 3, 4, 4, 5} {
		if got := booth.Digits(make([]int, n)); got != want {
			t.Errorf("Digits of %d bits: %d, want %d", n, got, want)
		}
	}
	for n := range 300 {
		// The word's bits, and one more, are in them, and no digit is left over.
		if d := booth.Digits(make([]int, n)); 2*d < n+1 || 2*d > n+2 {
			t.Errorf("Digits of %d bits: %d", n, d)
		}
	}
}

// bits are a digit's, as Digit tells them.
func bits(d int, highest int) []int {
	z := []int{highest, 0, 0}
	if d == 1 || d == -1 {
		z[1] = 1
	}
	if d == 2 || d == -2 {
		z[2] = 1
	}
	return z
}

func TestDigit(t *testing.T) {
	for _, n := range []int{0, 1, 2, 3, 4, 5, 6, 7, 8, 9, 24, 53} {
		for i := range n/2 + 1 {
			holds(t, fmt.Sprint("Digit ", i), one(n), one(3), func(b *build.B, y [][]int) [][]int {
				neg, one, two := booth.Digit(b, y[0], i)
				return [][]int{{neg, one, two}}
			}, func(y [][]int) [][]int {
				highest := 0
				if 2*i+1 < n {
					highest = y[0][2*i+1]
				}
				return [][]int{bits(digit(y[0], i), highest)}
			})
		}
	}
}

// The word's number is the sum of each digit times 4^i.
func TestDigitsTellTheNumber(t *testing.T) {
	for n := range 11 {
		for v := range uint64(1) << n {
			y, sum := probe.Bits(v, n), 0
			for i := range booth.Digits(y) {
				sum += digit(y, i) << (2 * i)
			}
			if uint64(sum) != v {
				t.Fatalf("digits of %v: %d", y, sum)
			}
		}
	}
}

// The chapter's example: the digits of 7, of 3 bits, are -1 and 2.
func TestExample(t *testing.T) {
	b := build.New()
	y := b.Word(nat.Of(7), 3)
	for i := range booth.Digits(y) {
		neg, one, two := booth.Digit(b, y, i)
		b.Out("z", []int{neg, one, two})
	}
	told := probe.Told(b.Net(), [][][]int{nil})[0]
	if len(told) != 2 || !slices.Equal(told[0], []int{1, 1, 0}) || !slices.Equal(told[1], []int{0, 0, 1}) {
		t.Errorf("%v", told)
	}
}

// P16.2

// rowHolds holds Row, its word and its bit together, against digit times x times 4^i, modulo 2^width.
func rowHolds(t *testing.T, nx, ny, i, width int) {
	t.Helper()
	c := probe.Case[*build.B]{New: build.New, Ins: []int{nx, ny}, Wides: []int{max(width, 0), 1}, Lay: func(b *build.B, x [][]int) [][]int {
		row, bit := booth.Row(b, x[0], x[1], i, width)
		return [][]int{row, one(bit)}
	}}
	n, fault := c.Net()
	if fault != "" {
		t.Fatalf("Row %d of %d and %d bits, to %d: %s", i, nx, ny, width, fault)
	}
	script := probe.Some(nx, ny)
	for at, told := range probe.Tells(n, script) {
		x, y := script[at][0], script[at][1]
		got := new(big.Int).Lsh(number(told[1]), uint(2*i))
		got.Add(got, number(told[0]))
		want := new(big.Int).Lsh(number(x), uint(2*i))
		want.Mul(want, big.NewInt(int64(digit(y, i))))
		if !slices.Equal(word(got, max(width, 0)), word(want, max(width, 0))) {
			t.Fatalf("Row %d of %v and %v, to %d: %v", i, x, y, width, told)
		}
	}
}

// Rows of each digit, at each place, of each width: of fewer bits than its place, as many, and more.
func TestRow(t *testing.T) {
	for nx := range 5 {
		for ny := range 6 {
			for i := range ny/2 + 1 {
				for _, width := range []int{math.MinInt, -1, 0, 1, 2, 3, 4, 5, 6, 7, 8, 9, 12, 20} {
					rowHolds(t, nx, ny, i, width)
				}
			}
		}
	}
	for _, n := range []int{11, 24, 53, 64} {
		for i := range n/2 + 1 {
			rowHolds(t, n, n, i, 2*n)
			rowHolds(t, n, n, i, n)
		}
	}
}

// P16.3

// products lay a product by digits, and by bits.
func products() map[string]func(b *build.B, x, y []int) []int {
	return map[string]func(b *build.B, x, y []int) []int{"Mul": booth.Mul, "Plain": booth.Plain}
}

// lengths goes through lengths of two words: small ones all, and some greater ones.
func lengths() [][]int {
	var all [][]int
	for x := range 6 {
		for y := range 6 {
			all = append(all, []int{x, y})
		}
	}
	return append(all, [][]int{{8, 2}, {1, 9}, {7, 7}, {10, 0}, {0, 11}, {11, 11}, {12, 13}, {24, 24}, {3, 40}, {40, 3}, {33, 32}, {53, 53}, {64, 65}}...)
}

func TestProducts(t *testing.T) {
	for name, mul := range products() {
		for _, ins := range lengths() {
			wide := ins[0] + ins[1]
			holds(t, name, ins, one(wide), func(b *build.B, x [][]int) [][]int { return [][]int{mul(b, x[0], x[1])} }, func(x [][]int) [][]int {
				return [][]int{word(new(big.Int).Mul(number(x[0]), number(x[1])), wide)}
			})
		}
	}
}

// All values of words of 8 bits.
func TestAllOfEightBits(t *testing.T) {
	for name, mul := range products() {
		c := probe.Case[*build.B]{New: build.New, Ins: []int{8, 8}, Wides: one(16), Lay: func(b *build.B, x [][]int) [][]int {
			return [][]int{mul(b, x[0], x[1])}
		}, Want: probe.Numbers(func(v []uint64) []uint64 { return []uint64{v[0] * v[1]} }, 16)}
		if fault := c.Amiss(probe.Every(8, 8)); fault != "" {
			t.Errorf("%s: %s", name, fault)
		}
	}
}

// P16.4

// Both tell the same, turned about too, within one net.
func TestTurnedAbout(t *testing.T) {
	for _, ins := range lengths() {
		holds(t, "all products", ins, one(3), func(b *build.B, x [][]int) [][]int {
			z := booth.Mul(b, x[0], x[1])
			return [][]int{{b.Same(z, booth.Mul(b, x[1], x[0])), b.Same(z, booth.Plain(b, x[0], x[1])), b.Same(z, booth.Plain(b, x[1], x[0]))}}
		}, func([][]int) [][]int { return [][]int{{1, 1, 1}} })
	}
}

// A word times itself, and times its own bits.
func TestBitsTwice(t *testing.T) {
	for name, mul := range products() {
		holds(t, name, one(6), []int{12, 8}, func(b *build.B, x [][]int) [][]int {
			return [][]int{mul(b, x[0], x[0]), mul(b, x[0], x[0][4:])}
		}, probe.Numbers(func(v []uint64) []uint64 { return []uint64{v[0] * v[0], v[0] * (v[0] >> 4)} }, 12, 8))
	}
}

package ffma_test

import (
	"math/big"
	"testing"

	"slipstick/build"
	"slipstick/fadd"
	"slipstick/ffma"
	"slipstick/fmul"
	"slipstick/format"
	"slipstick/oracle"
	"slipstick/probe"
	"slipstick/unpack"
)

// one is a word of a bit.
func one(bit int) []int { return []int{bit} }

// lays is the case of products and sums at once.
func lays(f format.Form) probe.Case[*build.B] {
	return probe.Case[*build.B]{New: build.New, Ins: []int{3, f.Bits, f.Bits, f.Bits}, Wides: []int{f.Bits, 5}, Lay: func(b *build.B, x [][]int) [][]int {
		bits, flags := ffma.Lay(b, f, x[0], x[1], x[2], x[3])
		return [][]int{bits, flags}
	}, Want: probe.Numbers(oracle.Both(f), f.Bits, 5)}
}

// sums is the case of fadd's sums, and products that of fmul's products: by a mode, of two words.
func sums(f format.Form) probe.Case[*build.B] {
	return probe.Case[*build.B]{New: build.New, Ins: []int{3, f.Bits, f.Bits}, Wides: []int{f.Bits, 5}, Lay: func(b *build.B, x [][]int) [][]int {
		bits, flags := fadd.Lay(b, f, x[0], b.Bit(0), x[1], x[2])
		return [][]int{bits, flags}
	}}
}

func products(f format.Form) probe.Case[*build.B] {
	return probe.Case[*build.B]{New: build.New, Ins: []int{3, f.Bits, f.Bits}, Wides: []int{f.Bits, 5}, Lay: func(b *build.B, x [][]int) [][]int {
		bits, flags := fmul.Lay(b, f, x[0], x[1], x[2])
		return [][]int{bits, flags}
	}}
}

// same holds a case of a format against what it must tell of numbers.
func same(t *testing.T, f format.Form, c probe.Case[*build.B], all [][]uint64) {
	t.Helper()
	if fault := c.AmissOf(all); fault != "" {
		t.Errorf("%d bits: %s", f.Bits, fault)
	}
}

// holds holds products and sums at once of three words, by each mode, against exact ones.
func holds(t *testing.T, f format.Form, triples [][]uint64) {
	t.Helper()
	same(t, f, lays(f), oracle.ByModes(triples))
}

// finite is a finite word's Exp and Size.
func finite(f format.Form, v uint64) (int, *big.Int) {
	unit := uint64(1) << (f.P - 1)
	field, fraction := v&^f.Nought(true)/unit, v%unit
	if field == 0 {
		return 1, new(big.Int).SetUint64(fraction)
	}
	return int(field), new(big.Int).SetUint64(unit + fraction)
}

// place is a product's place, by the Exps of its numbers.
func place(f format.Form, x, y int) int { return x + y + f.Low() - 2 }

// way is the way of a product and an addend, by their Exps.
func way(f format.Form, x, y, z int) int { return 2*f.P + 3 + place(f, x, y) - (z - 1) }

// word is a number's word.
func word(n *big.Int, width int) []int {
	bits := make([]int, width)
	for k := range bits {
		bits[k] = int(n.Bit(k))
	}
	return bits
}

// is is 1 for yes.
func is(v bool) int {
	if v {
		return 1
	}
	return 0
}

// framed is what Window must tell of three finite words, by the document's words.
func framed(f format.Form, x, y, z uint64) [][]int {
	ex, sx := finite(f, x)
	ey, sy := finite(f, y)
	ez, sz := finite(f, z)
	product := new(big.Int).Mul(sx, sy)
	steps := way(f, ex, ey, ez)
	rules := sz.Sign() > 0 && (product.Sign() == 0 || steps < 0)
	lowest := place(f, ex, ey) - (f.P + 3)
	if rules {
		steps, lowest = 0, ez-1-(3*f.P+6)
	}
	addend := new(big.Int).Lsh(sz, uint(3*f.P+6))
	below := uint(max(steps, 0))
	lost := addend.Sign() > 0 && addend.TrailingZeroBits() < below
	wide := 4*f.P + 7
	return [][]int{word(product.Lsh(product, uint(f.P+3)), wide), word(addend.Rsh(addend, below), wide), probe.Bits(uint64(lowest), f.Wide+4), one(is(lost)), one(is(rules))}
}

// frames is the case of three finite words' windows.
func frames(f format.Form) probe.Case[*build.B] {
	wide := 4*f.P + 7
	return probe.Case[*build.B]{New: build.New, Ins: []int{f.Bits, f.Bits, f.Bits}, Wides: []int{wide, wide, f.Wide + 4, 1, 1}, Lay: func(b *build.B, x [][]int) [][]int {
		w := ffma.Window(b, f, unpack.Of(b, f, x[0]), unpack.Of(b, f, x[1]), unpack.Of(b, f, x[2]))
		return [][]int{w.Product, w.Addend, w.Place, one(w.Lost), one(w.Rules)}
	}, Want: func(x [][]int) [][]int {
		return framed(f, probe.Number(x[0]), probe.Number(x[1]), probe.Number(x[2]))
	}}
}

// few are words of each class, of both signs, with fractions of one bit, of no rule and of all bits, and of signs in turn.
func few(f format.Form) []uint64 {
	sign, unit, inf := f.Nought(true), uint64(1)<<(f.P-1), f.Infinite(false)
	return []uint64{
		0, sign, 1, sign | 3, unit - 1, sign | unit/2, unit, sign | unit + 1, 5*unit | unit/3,
		oracle.One(f), sign | oracle.One(f), oracle.One(f) + 1, sign | oracle.One(f) - 1, oracle.One(f) - uint64(f.P)*unit, oracle.One(f)/2 + unit/5, sign | 2*oracle.One(f),
		inf - 1, sign | inf - unit, sign | inf - 1, inf, sign | inf, inf | unit/2, sign | inf | unit/2 | 7, inf | 1, sign | inf | (unit/2 - 1),
	}
}

// between is a word of no rule whose exponent field is this, or the next one that may be, of a sign of no rule.
func between(f format.Form, r *probe.Rule, field int) uint64 {
	most := 1<<f.Wide - 2
	unit := uint64(1) << (f.P - 1)
	fraction := []uint64{r.Next() & (unit - 1), 0, unit - 1, 1 << r.Below(f.P-1)}[r.Below(4)]
	return uint64(min(max(field, 0), most))*unit | fraction | f.Nought(r.Below(2) == 1)
}

package ieee_test

import (
	"math/big"
	"testing"

	"slipstick/api"
	"slipstick/format"
	"slipstick/ieee"
)

// What the document asks, worked out by the library's own numbers, all of them whole: a format's numbers as multiples of 2^low, sums of products as multiples of 2^(2 low).

// edges are the bits that the document names, of one format, written out.
type edges struct {
	bits, p, low                     int
	sign, leastNormal, one, infinite uint64
}

func allEdges() []edges {
	return []edges{
		{bits: 16, p: 11, low: -24, sign: 0x8000, leastNormal: 0x0400, one: 0x3c00, infinite: 0x7c00},
		{bits: 32, p: 24, low: -149, sign: 0x80000000, leastNormal: 0x00800000, one: 0x3f800000, infinite: 0x7f800000},
		{bits: 64, p: 53, low: -1074, sign: 0x8000000000000000, leastNormal: 0x0010000000000000, one: 0x3ff0000000000000, infinite: 0x7ff0000000000000},
	}
}

// form is the format of those edges, as format.Of tells it.
func (c edges) form() format.Form {
	f, _ := format.Of(c.bits)
	return f
}

// quiet is the highest bit of the fraction.
func (c edges) quiet() uint64 { return c.leastNormal / 2 }

// size are bits without their sign.
func (c edges) size(b uint64) uint64 { return b &^ c.sign }

// neg tells whether the sign is 1.
func (c edges) neg(b uint64) bool { return b&c.sign != 0 }

// isNone tells whether bits are no number: of one sign, those stand above the infinite ones.
func (c edges) isNone(b uint64) bool { return c.size(b) > c.infinite }

// isSignal tells whether they are signalling, too.
func (c edges) isSignal(b uint64) bool { return c.isNone(b) && b&c.quiet() == 0 }

func (c edges) isInfinite(b uint64) bool { return c.size(b) == c.infinite }

func (c edges) isNought(b uint64) bool { return c.size(b) == 0 }

// signed are the bits of a size, with a sign.
func (c edges) signed(neg bool, size uint64) uint64 {
	if neg {
		return c.sign | size
	}
	return size
}

// number is a finite number as a multiple of 2^low.
func (c edges) number(b uint64) *big.Int {
	field, fraction := c.size(b)/c.leastNormal, c.size(b)%c.leastNormal
	n := new(big.Int).SetUint64(fraction)
	if field > 0 {
		n.SetUint64(c.leastNormal + fraction)
		n.Lsh(n, uint(field-1))
	}
	if c.neg(b) {
		n.Neg(n)
	}
	return n
}

// answer is what a call tells.
type answer struct {
	bits  uint64
	flags int
	e     api.Errno
}

// told is the answer of two results and an error, as the calls give them.
func told(bits uint64, flags int, e api.Errno) answer { return answer{bits, flags, e} }

// is holds an answer against what is wanted.
func (got answer) is(t *testing.T, want answer, c edges, mode int, call string, operands ...uint64) {
	t.Helper()
	if got != want {
		t.Errorf("%d bits, mode %d: %s of %#x: %#x, flags %d, %d, want %#x, flags %d, %d", c.bits, mode, call, operands, got.bits, got.flags, got.e, want.bits, want.flags, want.e)
	}
}

// goesOn tells of each mode whether a size that lies so against the middle up to the next one (-1, 0, 1) goes on to that.
func goesOn(mode int, neg bool, half int, odd bool) bool {
	return [api.Modes]bool{
		api.Even: half > 0 || half == 0 && odd,
		api.Zero: false,
		api.Down: neg,
		api.Up:   !neg,
		api.Away: half >= 0,
	}[mode]
}

// rounded tells a number n times 2^unit, that isn't 0, rounded.
func (c edges) rounded(mode int, n *big.Int, unit int) answer {
	neg, size := n.Sign() < 0, new(big.Int).Abs(n)
	top := size.BitLen() - 1 + unit
	place := max(top-(c.p-1), c.low)
	var whole, rest, half big.Int
	if place <= unit {
		whole.Lsh(size, uint(unit-place))
	} else {
		half.Lsh(big.NewInt(1), uint(place-unit-1))
		whole.QuoRem(size, new(big.Int).Lsh(&half, 1), &rest)
	}
	// A normal number's own bit adds 1 to the steps up from low: so its exponent field comes out.
	next := uint64(place-c.low)*c.leastNormal + whole.Uint64()
	flags := 0
	if rest.Sign() != 0 {
		flags = api.Inexact
		if top < c.low+c.p-1 {
			flags |= api.Underflow
		}
		if goesOn(mode, neg, rest.Cmp(&half), whole.Bit(0) == 1) {
			next++
		}
	}
	if next >= c.infinite {
		return answer{c.beyond(mode, neg), api.Overflow | api.Inexact, api.OK}
	}
	return answer{c.signed(neg, next), flags, api.OK}
}

// beyond is what is told of a number beyond, written out.
func (c edges) beyond(mode int, neg bool) uint64 {
	if mode == api.Zero || mode == api.Down && !neg || mode == api.Up && neg {
		return c.signed(neg, c.infinite-1)
	}
	return c.signed(neg, c.infinite)
}

// noNumber is what is told where operands make no number.
func (c edges) noNumber() answer { return answer{c.infinite | c.quiet(), api.Invalid, api.OK} }

// nones tells what is told of operands of which one is no number, and whether one is.
func (c edges) nones(operands ...uint64) (answer, bool) {
	invalid := 0
	for _, b := range operands {
		if c.isSignal(b) {
			invalid = api.Invalid
		}
	}
	for _, b := range operands {
		if c.isNone(b) {
			return answer{b | c.quiet(), invalid, api.OK}, true
		}
	}
	return answer{}, false
}

// sumOfNought is what is told of an exact sum of 0.
func (c edges) sumOfNought(mode int, bothNought, firstNeg, secondNeg bool) answer {
	if bothNought && firstNeg == secondNeg {
		return answer{c.signed(firstNeg, 0), 0, api.OK}
	}
	return answer{c.signed(mode == api.Down, 0), 0, api.OK}
}

// add is what Add is asked for.
func (c edges) add(mode int, a, b uint64) answer {
	if none, is := c.nones(a, b); is {
		return none
	}
	switch {
	case c.isInfinite(a) && c.isInfinite(b) && a != b:
		return c.noNumber()
	case c.isInfinite(a):
		return answer{a, 0, api.OK}
	case c.isInfinite(b):
		return answer{b, 0, api.OK}
	}
	exact := c.number(a)
	if exact.Add(exact, c.number(b)); exact.Sign() == 0 {
		return c.sumOfNought(mode, c.isNought(a) && c.isNought(b), c.neg(a), c.neg(b))
	}
	return c.rounded(mode, exact, c.low)
}

// sub is what Sub is asked for.
func (c edges) sub(mode int, a, b uint64) answer {
	if none, is := c.nones(a, b); is {
		return none
	}
	return c.add(mode, a, b^c.sign)
}

// noFactors tells whether two factors make no number.
func (c edges) noFactors(a, b uint64) bool {
	return c.isInfinite(a) && c.isNought(b) || c.isNought(a) && c.isInfinite(b)
}

// mul is what Mul is asked for.
func (c edges) mul(mode int, a, b uint64) answer {
	if none, is := c.nones(a, b); is {
		return none
	}
	neg := c.neg(a) != c.neg(b)
	switch {
	case c.noFactors(a, b):
		return c.noNumber()
	case c.isInfinite(a) || c.isInfinite(b):
		return answer{c.signed(neg, c.infinite), 0, api.OK}
	case c.isNought(a) || c.isNought(b):
		return answer{c.signed(neg, 0), 0, api.OK}
	}
	exact := c.number(a)
	return c.rounded(mode, exact.Mul(exact, c.number(b)), 2*c.low)
}

// fma is what Fma is asked for.
func (c edges) fma(mode int, a, b, d uint64) answer {
	if none, is := c.nones(a, b, d); is {
		if c.noFactors(a, b) {
			none.flags = api.Invalid
		}
		return none
	}
	neg := c.neg(a) != c.neg(b)
	infinite := c.isInfinite(a) || c.isInfinite(b)
	switch {
	case c.noFactors(a, b), infinite && c.isInfinite(d) && neg != c.neg(d):
		return c.noNumber()
	case infinite:
		return answer{c.signed(neg, c.infinite), 0, api.OK}
	case c.isInfinite(d):
		return answer{d, 0, api.OK}
	}
	exact := c.number(a)
	exact.Mul(exact, c.number(b))
	nought := exact.Sign() == 0
	addend := c.number(d)
	if exact.Add(exact, addend.Lsh(addend, uint(-c.low))); exact.Sign() == 0 {
		return c.sumOfNought(mode, nought && c.isNought(d), neg, c.neg(d))
	}
	return c.rounded(mode, exact, 2*c.low)
}

// checkTwo holds the calls of two operands against the oracle, by all modes.
func (c edges) checkTwo(t *testing.T, a, b uint64) {
	t.Helper()
	f := c.form()
	for mode := range api.Modes {
		told(ieee.Add(f, mode, a, b)).is(t, c.add(mode, a, b), c, mode, "Add", a, b)
		told(ieee.Sub(f, mode, a, b)).is(t, c.sub(mode, a, b), c, mode, "Sub", a, b)
		told(ieee.Mul(f, mode, a, b)).is(t, c.mul(mode, a, b), c, mode, "Mul", a, b)
	}
}

// checkThree holds Fma against the oracle, by all modes.
func (c edges) checkThree(t *testing.T, a, b, d uint64) {
	t.Helper()
	f := c.form()
	for mode := range api.Modes {
		told(ieee.Fma(f, mode, a, b, d)).is(t, c.fma(mode, a, b, d), c, mode, "Fma", a, b, d)
	}
}

// bothSigns are sizes' bits of sign 0 and of sign 1.
func (c edges) bothSigns(sizes []uint64) []uint64 {
	var all []uint64
	for _, size := range sizes {
		all = append(all, size, c.sign|size)
	}
	return all
}

// numbers are finite numbers: zeros, the least and the greatest ones of each class, ordinary ones, and those whose sums and products lie half way.
func (c edges) numbers() []uint64 {
	unit, half := c.leastNormal, c.leastNormal/2
	return c.bothSigns([]uint64{
		0, 1, 2, 3, half - 1, half, half + 1, unit - 1,
		unit, unit + 1, 2*unit - 1, 2 * unit, c.one/2 - 1, c.one / 2, c.one/2 + half,
		c.one - uint64(c.p)*unit, c.one - uint64(c.p+1)*unit, c.one - uint64(c.p+1)*unit + 1, c.one - unit, c.one - 1, c.one, c.one + 1, c.one + 2, c.one + half, c.one + unit, c.one + unit + 1, c.one + uint64(c.p)*unit + 3,
		c.infinite - 2*unit, c.infinite - unit - 1, c.infinite - unit, c.infinite - unit + 1, c.infinite - 2, c.infinite - 1,
	})
}

// few are some of those, of which three are put together.
func (c edges) few() []uint64 {
	return c.bothSigns([]uint64{0, 1, 3, c.leastNormal - 1, c.leastNormal, c.leastNormal + 1, c.one / 2, c.one - uint64(c.p)*c.leastNormal, c.one - 1, c.one, c.one + 2, c.one + c.leastNormal, c.infinite - c.leastNormal, c.infinite - 1})
}

// allNones are bits that are no number, quiet and signalling ones, with the least and the greatest fractions.
func (c edges) allNones() []uint64 {
	return c.bothSigns([]uint64{c.infinite + 1, c.infinite + 5, c.infinite | (c.quiet() - 1), c.infinite | c.quiet(), c.infinite | c.quiet() | 9, c.infinite | (c.leastNormal - 1)})
}

// scatter calls do with bits from a fixed row of numbers, three of them each time.
func (c edges) scatter(times int, do func(a, b, d uint64)) {
	row := uint64(0x9e3779b97f4a7c15)
	next := func() uint64 {
		row = row*6364136223846793005 + 1442695040888963407
		return (row ^ row>>29) & (c.sign | (c.sign - 1))
	}
	for range times {
		do(next(), next(), next())
	}
}

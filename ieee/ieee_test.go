package ieee_test

import (
	"math"
	"testing"

	"slipstick/api"
	"slipstick/ieee"
)

func TestExamples(t *testing.T) {
	const inexact, under, over = api.Inexact, api.Underflow | api.Inexact, api.Overflow | api.Inexact
	c := allEdges()[0]
	f := c.form()
	for mode, want := range [api.Modes]answer{{0x3c00, inexact, 0}, {0x3c00, inexact, 0}, {0x3c00, inexact, 0}, {0x3c01, inexact, 0}, {0x3c00, inexact, 0}} {
		told(ieee.Add(f, mode, 0x3c00, 0x0001)).is(t, want, c, mode, "Add", 0x3c00, 0x0001)
		told(ieee.Sub(f, mode, 0x3c00, 0x8001)).is(t, want, c, mode, "Sub", 0x3c00, 0x8001)
	}
	for mode, want := range [api.Modes]answer{{0x7c00, over, 0}, {0x7bff, inexact, 0}, {0x7bff, inexact, 0}, {0x7c00, over, 0}, {0x7c00, over, 0}} {
		told(ieee.Add(f, mode, 0x7bff, 0x4c00)).is(t, want, c, mode, "Add", 0x7bff, 0x4c00) // 65504 and 16
	}
	for mode, want := range [api.Modes]answer{{0xfc00, over, 0}, {0xfbff, over, 0}, {0xfc00, over, 0}, {0xfbff, over, 0}, {0xfc00, over, 0}} {
		told(ieee.Add(f, mode, 0xfbff, 0xfbff)).is(t, want, c, mode, "Add", 0xfbff, 0xfbff)
		told(ieee.Mul(f, mode, 0xfbff, 0x7bff)).is(t, want, c, mode, "Mul", 0xfbff, 0x7bff)
		told(ieee.Fma(f, mode, 0xfbff, 0x7bff, 0x7bff)).is(t, want, c, mode, "Fma", 0xfbff, 0x7bff, 0x7bff)
	}
	for mode, want := range [api.Modes]answer{{0, under, 0}, {0, under, 0}, {0, under, 0}, {1, under, 0}, {1, under, 0}} {
		told(ieee.Mul(f, mode, 0x0001, 0x3800)).is(t, want, c, mode, "Mul", 0x0001, 0x3800) // half the least one
	}
	for mode := range api.Modes {
		// A number squared, less what that is rounded to: in two steps it would be 0.
		told(ieee.Fma(f, mode, 0x3c01, 0x3c01, 0xbc02)).is(t, answer{bits: 0x0010}, c, mode, "Fma", 0x3c01, 0x3c01, 0xbc02)
		none := answer{0x7e00, api.Invalid, api.OK}
		told(ieee.Mul(f, mode, 0x7c00, 0)).is(t, none, c, mode, "Mul", 0x7c00, 0)
		told(ieee.Sub(f, mode, 0x7c00, 0x7c00)).is(t, none, c, mode, "Sub", 0x7c00, 0x7c00)
	}
	for mode, want := range [api.Modes]answer{{}, {}, {bits: 0x8000}, {}, {}} {
		told(ieee.Sub(f, mode, 0x3c00, 0x3c00)).is(t, want, c, mode, "Sub", 0x3c00, 0x3c00)
	}
}

// P5.1 and P5.2: numbers with numbers.
func TestPairs(t *testing.T) {
	for _, c := range allEdges() {
		for _, a := range c.numbers() {
			for _, b := range c.numbers() {
				c.checkTwo(t, a, b)
			}
		}
	}
}

// All bits of 16, with some others.
func TestAllBits(t *testing.T) {
	c := allEdges()[0]
	f := c.form()
	for a := range uint64(1 << 16) {
		for i, b := range []uint64{0x3c01, 0x8003, 0xb7ff, 0x7bff, 0x1400} {
			mode := (int(a) + i) % api.Modes
			told(ieee.Add(f, mode, a, b)).is(t, c.add(mode, a, b), c, mode, "Add", a, b)
			told(ieee.Sub(f, mode, b, a)).is(t, c.sub(mode, b, a), c, mode, "Sub", b, a)
			told(ieee.Mul(f, mode, a, b)).is(t, c.mul(mode, a, b), c, mode, "Mul", a, b)
			told(ieee.Fma(f, mode, b, a, 0xabcd)).is(t, c.fma(mode, b, a, 0xabcd), c, mode, "Fma", b, a, 0xabcd)
		}
	}
}

// P5.3: numbers with numbers and numbers.
func TestTriples(t *testing.T) {
	for _, c := range allEdges() {
		for _, a := range c.few() {
			for _, b := range c.few() {
				for _, d := range c.few() {
					c.checkThree(t, a, b, d)
				}
			}
		}
	}
}

// Bits of any kind; and near to each other, so that much is cancelled.
func TestScattered(t *testing.T) {
	for _, c := range allEdges() {
		fraction := c.leastNormal - 1
		c.scatter(2000, func(a, b, d uint64) {
			c.checkTwo(t, a, b)
			c.checkThree(t, a, b, d)
			a, b = c.one|a&(c.sign|fraction), c.one|b&(c.sign|3*c.leastNormal-1)
			c.checkTwo(t, a, b)
			c.checkThree(t, a, b, c.one|d&(c.sign|3*c.leastNormal-1))
		})
	}
}

// What is left of a product when what it is rounded to is taken off, and a little more or less than that.
func TestNearlyCancelled(t *testing.T) {
	for _, c := range allEdges() {
		near := func(a, b, _ uint64) {
			product := c.mul(api.Zero, a, b).bits
			if c.size(product) >= c.infinite-1 || c.isNought(product) {
				return
			}
			for _, d := range []uint64{product - 1, product, product + 1} {
				c.checkThree(t, a, b, d^c.sign)
			}
		}
		c.scatter(500, func(a, b, d uint64) {
			near(a, b, d)
			fraction := c.leastNormal - 1
			near(c.one|a&fraction, c.one|b&fraction, d)
			near(c.leastNormal|a&fraction, c.one-c.leastNormal|b&fraction, d)
		})
	}
}

// By Even the machine adds and multiplies so, too.
func TestAgainstTheMachine(t *testing.T) {
	wide, narrow := allEdges()[2], allEdges()[1]
	is := func(c edges, call string, got answer, want uint64, operands ...uint64) {
		t.Helper()
		if !c.isNone(want) {
			got.flags = 0
			got.is(t, answer{bits: want}, c, api.Even, call, operands...)
		}
	}
	check64 := func(a, b, d uint64) {
		f, x, y, z := wide.form(), math.Float64frombits(a), math.Float64frombits(b), math.Float64frombits(d)
		is(wide, "Add", told(ieee.Add(f, api.Even, a, b)), math.Float64bits(x+y), a, b)
		is(wide, "Sub", told(ieee.Sub(f, api.Even, a, b)), math.Float64bits(x-y), a, b)
		is(wide, "Mul", told(ieee.Mul(f, api.Even, a, b)), math.Float64bits(x*y), a, b)
		is(wide, "Fma", told(ieee.Fma(f, api.Even, a, b, d)), math.Float64bits(math.FMA(x, y, z)), a, b, d)
	}
	check32 := func(a, b, _ uint64) {
		f, x, y := narrow.form(), math.Float32frombits(uint32(a)), math.Float32frombits(uint32(b))
		is(narrow, "Add", told(ieee.Add(f, api.Even, a, b)), uint64(math.Float32bits(x+y)), a, b)
		is(narrow, "Sub", told(ieee.Sub(f, api.Even, a, b)), uint64(math.Float32bits(x-y)), a, b)
		is(narrow, "Mul", told(ieee.Mul(f, api.Even, a, b)), uint64(math.Float32bits(x*y)), a, b)
	}
	wide.scatter(3000, check64)
	narrow.scatter(3000, check32)
	for _, a := range append(wide.numbers(), wide.infinite) {
		for i, b := range wide.numbers() {
			check64(a, b, wide.numbers()[len(wide.numbers())-1-i])
		}
	}
	for _, a := range append(narrow.numbers(), narrow.infinite) {
		for _, b := range narrow.numbers() {
			check32(a, b, 0)
		}
	}
}

// The signs of a 0, written out: of both, by Down, by the other modes.
func TestSignsOfNought(t *testing.T) {
	for _, c := range allEdges() {
		f, minus := c.form(), c.sign
		one, least := c.one, uint64(1)
		for mode := range api.Modes {
			// nothing is what is told where the signs aren't both one.
			nothing := uint64(0)
			if mode == api.Down {
				nothing = minus
			}
			for _, r := range []struct{ a, b, sum, less, times uint64 }{
				{0, 0, 0, nothing, 0},
				{0, minus, nothing, 0, minus},
				{minus, 0, nothing, minus, minus},
				{minus, minus, minus, nothing, 0},
			} {
				told(ieee.Add(f, mode, r.a, r.b)).is(t, answer{bits: r.sum}, c, mode, "Add", r.a, r.b)
				told(ieee.Sub(f, mode, r.a, r.b)).is(t, answer{bits: r.less}, c, mode, "Sub", r.a, r.b)
				told(ieee.Mul(f, mode, r.a, r.b)).is(t, answer{bits: r.times}, c, mode, "Mul", r.a, r.b)
				told(ieee.Mul(f, mode, r.a, r.b|one)).is(t, answer{bits: r.times}, c, mode, "Mul", r.a, r.b|one)
				told(ieee.Mul(f, mode, r.a|least, r.b)).is(t, answer{bits: r.times}, c, mode, "Mul", r.a|least, r.b)
				for _, p := range [][2]uint64{{r.a, one}, {one, r.a}, {r.a ^ minus, minus | one}, {r.a, 0}, {r.a ^ minus, minus}} {
					told(ieee.Fma(f, mode, p[0], p[1], r.b)).is(t, answer{bits: r.sum}, c, mode, "Fma", p[0], p[1], r.b)
				}
			}
			for _, x := range c.numbers() {
				if !c.isNought(x) {
					told(ieee.Add(f, mode, x, x^minus)).is(t, answer{bits: nothing}, c, mode, "Add", x, x^minus)
					told(ieee.Sub(f, mode, x, x)).is(t, answer{bits: nothing}, c, mode, "Sub", x, x)
					told(ieee.Fma(f, mode, x, one, x^minus)).is(t, answer{bits: nothing}, c, mode, "Fma", x, one, x^minus)
					told(ieee.Fma(f, mode, minus|one, x, x)).is(t, answer{bits: nothing}, c, mode, "Fma", minus|one, x, x)
				}
			}
		}
	}
}

// A product that is rounded to 0 isn't 0: with a zero it keeps its own sign.
func TestRoundedToNought(t *testing.T) {
	const under = api.Underflow | api.Inexact
	for _, c := range allEdges() {
		f := c.form()
		for mode, want := range [api.Modes][2]uint64{{0, 0}, {0, 0}, {0, 1}, {1, 0}, {0, 0}} {
			for _, nought := range []uint64{0, c.sign} {
				told(ieee.Mul(f, mode, 1, 1)).is(t, answer{want[0], under, 0}, c, mode, "Mul", 1, 1)
				told(ieee.Mul(f, mode, c.sign|1, 1)).is(t, answer{c.sign | want[1], under, 0}, c, mode, "Mul", c.sign|1, 1)
				told(ieee.Fma(f, mode, 1, 1, nought)).is(t, answer{want[0], under, 0}, c, mode, "Fma", 1, 1, nought)
				told(ieee.Fma(f, mode, 1, c.sign|1, nought)).is(t, answer{c.sign | want[1], under, 0}, c, mode, "Fma", 1, c.sign|1, nought)
			}
		}
	}
}

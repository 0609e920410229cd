package ieee_test

import (
	"math"
	"testing"

	"slipstick/api"
	"slipstick/format"
	"slipstick/ieee"
)

// all are numbers, infinite ones and no numbers.
func (c edges) all() []uint64 {
	return append(append(c.numbers(), c.bothSigns([]uint64{c.infinite})...), c.allNones()...)
}

// P5.4: where both are numbers, it is one which stands first; infinite ones count, too.
func TestTurnedAbout(t *testing.T) {
	for _, c := range allEdges() {
		f := c.form()
		check := func(a, b, d uint64) {
			for mode := range api.Modes {
				if c.isNone(a) || c.isNone(b) {
					continue
				}
				told(ieee.Add(f, mode, a, b)).is(t, told(ieee.Add(f, mode, b, a)), c, mode, "Add turned about", a, b)
				told(ieee.Mul(f, mode, a, b)).is(t, told(ieee.Mul(f, mode, b, a)), c, mode, "Mul turned about", a, b)
				told(ieee.Fma(f, mode, a, b, d)).is(t, told(ieee.Fma(f, mode, b, a, d)), c, mode, "Fma turned about", a, b, d)
				told(ieee.Sub(f, mode, a, b)).is(t, told(ieee.Add(f, mode, a, ieee.Turned(f, b))), c, mode, "Sub", a, b)
			}
		}
		for _, a := range c.all() {
			for i, b := range c.all() {
				check(a, b, c.all()[len(c.all())-1-i])
			}
		}
		c.scatter(1000, check)
	}
}

// P5.4: Fma by 1 is Add, Fma with a zero of the product's sign is Mul.
func TestFmaAsAddAndMul(t *testing.T) {
	for _, c := range allEdges() {
		f := c.form()
		check := func(a, b, _ uint64) {
			nought := (a ^ b) & c.sign
			for mode := range api.Modes {
				sum, product := told(ieee.Add(f, mode, a, b)), told(ieee.Mul(f, mode, a, b))
				told(ieee.Fma(f, mode, a, c.one, b)).is(t, sum, c, mode, "Fma by 1", a, c.one, b)
				told(ieee.Fma(f, mode, c.one, a, b)).is(t, sum, c, mode, "Fma by 1", c.one, a, b)
				told(ieee.Fma(f, mode, a, b, nought)).is(t, product, c, mode, "Fma with 0", a, b, nought)
			}
		}
		for _, a := range c.all() {
			for _, b := range c.all() {
				check(a, b, 0)
			}
		}
		c.scatter(1000, check)
	}
}

// A sum with all its signs turned is that of the other sign, Down and Up change places; but of what cancels.
func TestTheOtherSigns(t *testing.T) {
	other := [api.Modes]int{api.Even: api.Even, api.Zero: api.Zero, api.Down: api.Up, api.Up: api.Down, api.Away: api.Away}
	for _, c := range allEdges() {
		f := c.form()
		for _, a := range c.numbers() {
			for _, b := range c.numbers() {
				for mode, turned := range other {
					sum, product := told(ieee.Add(f, mode, a, b)), told(ieee.Mul(f, mode, a, b))
					product.bits ^= c.sign
					told(ieee.Mul(f, turned, a^c.sign, b)).is(t, product, c, turned, "Mul of the other sign", a, b)
					if sum.bits&^c.sign != 0 {
						sum.bits ^= c.sign
						told(ieee.Add(f, turned, a^c.sign, b^c.sign)).is(t, sum, c, turned, "Add of the other signs", a, b)
					}
				}
			}
		}
	}
}

// P5.1
func TestTurned(t *testing.T) {
	for _, c := range allEdges() {
		f := c.form()
		for _, a := range c.all() {
			if got := ieee.Turned(f, a); got != a^c.sign {
				t.Errorf("%d bits: Turned of %#x: %#x", c.bits, a, got)
			}
			if got := ieee.Turned(f, ieee.Turned(f, a)); got != a {
				t.Errorf("%d bits: Turned twice of %#x: %#x", c.bits, a, got)
			}
		}
		// Of bits that may not be, those of the format.
		for _, beyond := range c.beyondBits() {
			for _, a := range c.all() {
				if got := ieee.Turned(f, beyond|a); got != a^c.sign {
					t.Errorf("%d bits: Turned of %#x: %#x", c.bits, beyond|a, got)
				}
			}
		}
	}
	for _, r := range []struct{ a, want uint64 }{{0x3c00, 0xbc00}, {0x8000, 0}, {0, 0x8000}, {0x7e01, 0xfe01}, {0x13c00, 0xbc00}, {math.MaxUint64, 0x7fff}} {
		if got := ieee.Turned(allEdges()[0].form(), r.a); got != r.want {
			t.Errorf("Turned of %#x: %#x, want %#x", r.a, got, r.want)
		}
	}
}

// beyondBits are some that a format doesn't have: of 64 bits there are none.
func (c edges) beyondBits() []uint64 {
	if c.bits == 64 {
		return nil
	}
	return []uint64{1 << c.bits, 1 << 63, math.MaxUint64 << c.bits}
}

// refused holds all calls of these operands against an error, and zero values beside it.
func (c edges) refused(t *testing.T, mode int, want api.Errno, a, b, d uint64) {
	t.Helper()
	f := c.form()
	told(ieee.Fma(f, mode, a, b, d)).is(t, answer{e: want}, c, mode, "Fma", a, b, d)
	if mode >= 0 && mode < api.Modes && f.May(a) && f.May(b) {
		return
	}
	told(ieee.Add(f, mode, a, b)).is(t, answer{e: want}, c, mode, "Add", a, b)
	told(ieee.Sub(f, mode, a, b)).is(t, answer{e: want}, c, mode, "Sub", a, b)
	told(ieee.Mul(f, mode, a, b)).is(t, answer{e: want}, c, mode, "Mul", a, b)
}

func TestWrongModes(t *testing.T) {
	for _, c := range allEdges() {
		operands := append(c.kinds(), c.beyondBits()...)
		for _, mode := range []int{-1, -2, 5, 6, 255, 1 << 32, math.MaxInt, math.MinInt} {
			for _, a := range operands {
				// The mode goes ahead of operands that may not be.
				c.refused(t, mode, api.ErrArg, a, c.one, 0)
				c.refused(t, mode, api.ErrArg, c.one, a, 0)
				c.refused(t, mode, api.ErrArg, c.one, 0, a)
				c.refused(t, mode, api.ErrArg, a, a, a)
			}
		}
	}
}

func TestOperandsThatMayNotBe(t *testing.T) {
	for _, c := range allEdges() {
		for _, beyond := range c.beyondBits() {
			for _, a := range c.kinds() {
				for _, b := range c.kinds() {
					for mode := range api.Modes {
						// No rule of infinite ones or of no numbers goes ahead.
						c.refused(t, mode, api.ErrRange, beyond|a, b, a)
						c.refused(t, mode, api.ErrRange, a, beyond|b, b)
						c.refused(t, mode, api.ErrRange, a, b, beyond|a)
						c.refused(t, mode, api.ErrRange, beyond|a, beyond|b, beyond)
					}
				}
			}
		}
	}
}

// R4: the same call answers the same, whatever was asked between.
func TestAskedAgain(t *testing.T) {
	for _, c := range allEdges() {
		f := c.form()
		c.scatter(300, func(a, b, d uint64) {
			for mode := range api.Modes {
				sum, product, both := told(ieee.Add(f, mode, a, b)), told(ieee.Mul(f, mode, a, b)), told(ieee.Fma(f, mode, a, b, d))
				ieee.Sub(f, (mode+1)%api.Modes, d, a)
				told(ieee.Add(f, mode, a, b)).is(t, sum, c, mode, "Add again", a, b)
				told(ieee.Mul(f, mode, a, b)).is(t, product, c, mode, "Mul again", a, b)
				told(ieee.Fma(f, mode, a, b, d)).is(t, both, c, mode, "Fma again", a, b, d)
			}
		})
	}
}

// Nothing is promised of forms that format.Of doesn't tell, but that no call panics.
func TestOtherForms(t *testing.T) {
	sizes := []int{math.MinInt, -65, -1, 0, 1, 2, 63, 64, 65, 1000, math.MaxInt}
	operands := []uint64{0, 1, 0x3c00, 0x7c00, 0x7e00, 1 << 63, math.MaxUint64}
	for _, bits := range sizes {
		for _, p := range sizes {
			for _, wide := range sizes {
				f := format.Form{Bits: bits, P: p, Wide: wide}
				for _, a := range operands {
					ieee.Turned(f, a)
					for i, b := range operands {
						mode := i % api.Modes
						ieee.Add(f, mode, a, b)
						ieee.Sub(f, mode, a, b)
						ieee.Mul(f, mode, a, b)
						ieee.Fma(f, mode, a, b, operands[len(operands)-1-i])
					}
				}
			}
		}
	}
}

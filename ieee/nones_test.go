package ieee_test

import (
	"testing"

	"slipstick/api"
	"slipstick/ieee"
)

// The kinds of operands of which the rules of infinite ones and of no numbers speak, with others beside them.
func (c edges) kinds() []uint64 {
	all := c.bothSigns([]uint64{0, 1, c.leastNormal, c.one, c.one + c.quiet(), c.infinite - 1, c.infinite})
	return append(all, c.allNones()...)
}

func TestKinds(t *testing.T) {
	for _, c := range allEdges() {
		for _, a := range c.kinds() {
			for _, b := range c.kinds() {
				c.checkTwo(t, a, b)
				for _, d := range c.kinds() {
					c.checkThree(t, a, b, d)
				}
			}
		}
	}
}

// Infinite ones with each kind of operand that is a number or infinite, written out.
func TestInfinite(t *testing.T) {
	for _, c := range allEdges() {
		f, inf, minus := c.form(), c.infinite, c.sign
		none := c.noNumber()
		is := func(b uint64) answer { return answer{bits: b} }
		for mode := range api.Modes {
			told(ieee.Add(f, mode, inf, inf)).is(t, is(inf), c, mode, "Add", inf, inf)
			told(ieee.Add(f, mode, minus|inf, minus|inf)).is(t, is(minus|inf), c, mode, "Add", minus|inf, minus|inf)
			told(ieee.Add(f, mode, inf, minus|inf)).is(t, none, c, mode, "Add", inf, minus|inf)
			told(ieee.Add(f, mode, minus|inf, inf)).is(t, none, c, mode, "Add", minus|inf, inf)
			told(ieee.Sub(f, mode, inf, inf)).is(t, none, c, mode, "Sub", inf, inf)
			told(ieee.Sub(f, mode, minus|inf, minus|inf)).is(t, none, c, mode, "Sub", minus|inf, minus|inf)
			told(ieee.Sub(f, mode, inf, minus|inf)).is(t, is(inf), c, mode, "Sub", inf, minus|inf)
			told(ieee.Sub(f, mode, minus|inf, inf)).is(t, is(minus|inf), c, mode, "Sub", minus|inf, inf)
			for _, x := range c.numbers() {
				for _, infinite := range []uint64{inf, minus | inf} {
					told(ieee.Add(f, mode, infinite, x)).is(t, is(infinite), c, mode, "Add", infinite, x)
					told(ieee.Add(f, mode, x, infinite)).is(t, is(infinite), c, mode, "Add", x, infinite)
					told(ieee.Sub(f, mode, infinite, x)).is(t, is(infinite), c, mode, "Sub", infinite, x)
					told(ieee.Sub(f, mode, x, infinite)).is(t, is(infinite^minus), c, mode, "Sub", x, infinite)
					want := is(inf | (infinite^x)&minus)
					if c.isNought(x) {
						want = none
					}
					told(ieee.Mul(f, mode, infinite, x)).is(t, want, c, mode, "Mul", infinite, x)
					told(ieee.Mul(f, mode, x, infinite)).is(t, want, c, mode, "Mul", x, infinite)
					told(ieee.Fma(f, mode, x, c.one, infinite)).is(t, is(infinite), c, mode, "Fma", x, c.one, infinite)
					told(ieee.Fma(f, mode, x, x, infinite)).is(t, is(infinite), c, mode, "Fma", x, x, infinite)
				}
			}
			for _, s := range [][2]uint64{{0, 0}, {0, minus}, {minus, 0}, {minus, minus}} {
				a, b, product := s[0]|inf, s[1]|inf, (s[0]^s[1])|inf
				told(ieee.Mul(f, mode, a, b)).is(t, is(product), c, mode, "Mul", a, b)
			}
		}
	}
}

// An infinite product, and an infinite one times 0, with addends of every kind, written out.
func TestInfiniteProducts(t *testing.T) {
	for _, c := range allEdges() {
		f, inf, minus := c.form(), c.infinite, c.sign
		for mode := range api.Modes {
			for _, s := range [][2]uint64{{0, 0}, {0, minus}, {minus, 0}, {minus, minus}} {
				sign := s[0] ^ s[1]
				for _, x := range []uint64{1, c.leastNormal, c.one, inf - 1, inf} {
					for _, p := range [][2]uint64{{s[0] | inf, s[1] | x}, {s[0] | x, s[1] | inf}} {
						for _, d := range append(c.numbers(), sign|inf) {
							told(ieee.Fma(f, mode, p[0], p[1], d)).is(t, answer{bits: sign | inf}, c, mode, "Fma", p[0], p[1], d)
						}
						d := sign ^ minus | inf
						told(ieee.Fma(f, mode, p[0], p[1], d)).is(t, c.noNumber(), c, mode, "Fma", p[0], p[1], d)
						for _, d := range c.allNones() {
							want := answer{bits: d | c.quiet()}
							if d&c.quiet() == 0 {
								want.flags = api.Invalid
							}
							told(ieee.Fma(f, mode, p[0], p[1], d)).is(t, want, c, mode, "Fma", p[0], p[1], d)
						}
					}
				}
				for _, p := range [][2]uint64{{s[0] | inf, s[1]}, {s[0], s[1] | inf}} {
					for _, d := range append(c.numbers(), inf, minus|inf) {
						told(ieee.Fma(f, mode, p[0], p[1], d)).is(t, c.noNumber(), c, mode, "Fma", p[0], p[1], d)
					}
					for _, d := range c.allNones() {
						want := answer{d | c.quiet(), api.Invalid, api.OK}
						told(ieee.Fma(f, mode, p[0], p[1], d)).is(t, want, c, mode, "Fma", p[0], p[1], d)
					}
				}
			}
		}
	}
}

// Operands that are no numbers, in each place and several at once, written out for 16 bits.
func TestNonesWrittenOut(t *testing.T) {
	const invalid = api.Invalid
	c := allEdges()[0]
	f := c.form()
	for mode := range api.Modes {
		for _, r := range []struct {
			a, b, told uint64
			flags      int
		}{
			{0x7e00, 0x3c00, 0x7e00, 0}, {0x3c00, 0x7e00, 0x7e00, 0}, {0xfe05, 0x0000, 0xfe05, 0}, {0x7c00, 0xffff, 0xffff, 0},
			{0x7c01, 0x3c00, 0x7e01, invalid}, {0x3c00, 0x7c01, 0x7e01, invalid}, {0xfc01, 0xfc00, 0xfe01, invalid}, {0x8000, 0xfdff, 0xffff, invalid},
			{0x7e01, 0x7e02, 0x7e01, 0}, {0x7e02, 0xfe01, 0x7e02, 0},
			{0x7e01, 0x7c02, 0x7e01, invalid}, {0x7c02, 0x7e01, 0x7e02, invalid}, {0xfc03, 0x7c02, 0xfe03, invalid}, {0x7c02, 0xfc03, 0x7e02, invalid},
		} {
			want := answer{r.told, r.flags, api.OK}
			told(ieee.Add(f, mode, r.a, r.b)).is(t, want, c, mode, "Add", r.a, r.b)
			told(ieee.Sub(f, mode, r.a, r.b)).is(t, want, c, mode, "Sub", r.a, r.b)
			told(ieee.Mul(f, mode, r.a, r.b)).is(t, want, c, mode, "Mul", r.a, r.b)
			told(ieee.Fma(f, mode, r.a, r.b, 0x4000)).is(t, want, c, mode, "Fma", r.a, r.b, 0x4000)
			told(ieee.Fma(f, mode, r.a, 0x4000, r.b)).is(t, want, c, mode, "Fma", r.a, 0x4000, r.b)
			told(ieee.Fma(f, mode, 0x4000, r.a, r.b)).is(t, want, c, mode, "Fma", 0x4000, r.a, r.b)
			told(ieee.Fma(f, mode, r.a, r.b, 0x7e0f)).is(t, want, c, mode, "Fma", r.a, r.b, 0x7e0f)
			want.flags = invalid
			told(ieee.Fma(f, mode, r.a, r.b, 0x7c0f)).is(t, want, c, mode, "Fma", r.a, r.b, 0x7c0f)
		}
		for _, r := range []struct {
			a, b, d, told uint64
			flags         int
		}{
			{0x7c00, 0x0000, 0x7e05, 0x7e05, invalid}, {0x8000, 0xfc00, 0xfe05, 0xfe05, invalid}, {0x7c00, 0x0000, 0x7c05, 0x7e05, invalid},
			{0x7e01, 0x0000, 0x7e05, 0x7e01, 0}, {0x7c00, 0xfe01, 0x7e05, 0xfe01, 0}, {0x7e01, 0x0000, 0x7c05, 0x7e01, invalid}, {0x7c01, 0x0000, 0x7e05, 0x7e01, invalid},
			{0x7c00, 0x3c00, 0x7e05, 0x7e05, 0}, {0x0000, 0x0000, 0x7e05, 0x7e05, 0}, {0x7c00, 0x7c00, 0xfe05, 0xfe05, 0},
		} {
			told(ieee.Fma(f, mode, r.a, r.b, r.d)).is(t, answer{r.told, r.flags, api.OK}, c, mode, "Fma", r.a, r.b, r.d)
		}
	}
}

// P5.1: of b that is no number Sub tells b's own sign, and its bits quieted; signalling ones are Invalid.
func TestSubOfNones(t *testing.T) {
	for _, c := range allEdges() {
		f := c.form()
		for mode := range api.Modes {
			for _, b := range c.allNones() {
				want := answer{bits: b | c.quiet()}
				if b&c.quiet() == 0 {
					want.flags = api.Invalid
				}
				for _, a := range append(c.numbers(), c.infinite, c.sign|c.infinite) {
					told(ieee.Sub(f, mode, a, b)).is(t, want, c, mode, "Sub", a, b)
					told(ieee.Sub(f, mode, b, a)).is(t, want, c, mode, "Sub", b, a)
				}
			}
		}
	}
}

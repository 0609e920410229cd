package fadd_test

import (
	"testing"

	"slipstick/api"
	"slipstick/build"
	"slipstick/fadd"
	"slipstick/format"
	"slipstick/oracle"
	"slipstick/probe"
	"slipstick/unpack"
)

// P20.1

// The chapter's example, those of the whole, and words written out.
func TestWrittenOut(t *testing.T) {
	var in, want [][]uint64
	const inexact, over = api.Inexact, api.Overflow | api.Inexact
	for _, c := range []struct{ mode, sub, x, y, bits, flags uint64 }{
		{api.Even, 0, 0x3c00, 0x3c00, 0x4000, 0},
		{api.Even, 0, 0x3c00, 0x0001, 0x3c00, inexact}, {api.Up, 0, 0x3c00, 0x0001, 0x3c01, inexact}, {api.Down, 1, 0x3c00, 0x0001, 0x3bff, inexact}, {api.Away, 1, 0x3c00, 0x0001, 0x3c00, inexact},
		{api.Even, 1, 0x7c00, 0x7c00, 0x7e00, api.Invalid}, {api.Even, 0, 0xfc00, 0x7c00, 0x7e00, api.Invalid}, {api.Down, 0, 0xfc00, 0xfc00, 0xfc00, 0}, {api.Down, 1, 0x3c00, 0x7c00, 0xfc00, 0},
		{api.Even, 1, 0x3c00, 0x3c00, 0x0000, 0}, {api.Down, 1, 0x3c00, 0x3c00, 0x8000, 0}, {api.Up, 0, 0x8000, 0x8000, 0x8000, 0}, {api.Down, 0, 0x0000, 0x0000, 0x0000, 0}, {api.Zero, 0, 0x0000, 0x8000, 0x0000, 0}, {api.Down, 1, 0x8000, 0x8000, 0x8000, 0},
		{api.Even, 0, 0x7bff, 0x4c00, 0x7c00, over}, {api.Zero, 0, 0x7bff, 0x4c00, 0x7bff, inexact}, {api.Zero, 1, 0xfbff, 0x5000, 0xfbff, over}, {api.Down, 0, 0xfbff, 0xfbff, 0xfc00, over}, {api.Up, 0, 0xfbff, 0xfbff, 0xfbff, over},
		{api.Even, 1, 0x0400, 0x0001, 0x03ff, 0}, {api.Even, 0, 0x03ff, 0x0001, 0x0400, 0}, {api.Even, 1, 0x0001, 0x0003, 0x8002, 0},
		{api.Even, 0, 0x7c01, 0x7e05, 0x7e01, api.Invalid}, {api.Even, 0, 0x7e05, 0x7c01, 0x7e05, api.Invalid}, {api.Even, 1, 0x3c00, 0x7e05, 0x7e05, 0}, {api.Even, 1, 0x7c00, 0xfc03, 0xfe03, api.Invalid}, {api.Up, 1, 0xfe00, 0x7c00, 0xfe00, 0},
	} {
		in = append(in, []uint64{c.mode, c.sub, c.x, c.y})
		want = append(want, []uint64{c.bits, c.flags})
	}
	if fault := lays(oracle.Forms()[0]).Unlike(in, want); fault != "" {
		t.Error(fault)
	}
}

// Words of each class with words of each class.
func TestEachClass(t *testing.T) {
	for _, f := range oracle.Forms() {
		holds(t, f, oracle.Some(f))
	}
}

// All words of 16 bits, with some others.
func TestAllWords(t *testing.T) {
	f := oracle.Forms()[0]
	var all [][]uint64
	for _, x := range oracle.Every() {
		for i, y := range []uint64{0x3c01, 0x8003, 0x7bff, x ^ 0x8001} {
			all = append(all, []uint64{(x + uint64(i)) % 5, x / 5 % 2, x, y}, []uint64{(x + uint64(i)) % 5, x / 5 % 2, y, x})
		}
	}
	same(t, f, lays(f), all)
}

// Numbers near one another, of which wholly, or but for few bits, nothing is left; and of no rule.
func TestNear(t *testing.T) {
	for _, f := range oracle.Forms() {
		r := probe.NewRule(uint64(20 * f.Bits))
		most := f.Infinite(false)
		var pairs [][]uint64
		for range 1500 {
			x := r.Next() % most
			for _, step := range []uint64{0, 1, 2, 3, 1 << r.Below(f.P), 1<<(f.P-1) + 1, 1<<(f.P-1) - 1, 2 << (f.P - 1)} {
				y := (x + step) % most
				pairs = append(pairs, []uint64{x, y}, []uint64{y, x})
			}
			pairs = append(pairs, []uint64{x, r.Next() % most}, []uint64{x | 1<<(f.Bits-1), r.Next() & oracle.Full(f)})
		}
		holds(t, f, pairs)
	}
}

// Numbers of each distance up to where nothing is left but that something was lost, halfway between others, and next to that.
func TestApart(t *testing.T) {
	for _, f := range oracle.Forms() {
		unit := uint64(1) << (f.P - 1)
		top := uint64(1)<<f.Wide - 2
		var pairs [][]uint64
		for gap := range uint64(2*f.P + 8) {
			for _, x := range []uint64{top * unit, top*unit + unit - 1, top*unit + 1, top*unit + unit/2, (gap + 1) * unit, (gap+1)*unit + 1, (gap+2)*unit - 1} {
				if x/unit < gap || x/unit > top {
					continue
				}
				field := x/unit - gap
				for _, fraction := range []uint64{0, 1, unit - 1, unit / 2, unit/2 + 1, unit/2 - 1} {
					pairs = append(pairs, []uint64{x, field*unit | fraction}, []uint64{field*unit | fraction, x})
				}
			}
		}
		holds(t, f, pairs)
	}
}

// What is beyond, halfway to it, and next to that.
func TestBeyond(t *testing.T) {
	for _, f := range oracle.Forms() {
		unit := uint64(1) << (f.P - 1)
		greatest := f.Greatest(false)
		half := greatest - uint64(f.P)*unit - unit + 1
		var pairs [][]uint64
		for _, x := range []uint64{greatest, greatest - 1, greatest - 2, greatest &^ (unit - 1)} {
			for _, y := range []uint64{half, half - 1, half + 1, half + unit, half + 2*unit, greatest, greatest - unit, 1} {
				pairs = append(pairs, []uint64{x, y}, []uint64{x | 1<<(f.Bits-1), y | 1<<(f.Bits-1)})
			}
		}
		holds(t, f, pairs)
	}
}

// P20.2

// Each pair of Exps of 16 bits of which the first one is no less, and each distance of the others, with some Sizes, turned about and not.
func TestAlign(t *testing.T) {
	for _, f := range oracle.Forms() {
		r := probe.NewRule(uint64(202 * f.Bits))
		full := uint64(1)<<f.P - 1
		var all [][]uint64
		lay := func(great, less uint64) {
			for _, small := range []uint64{full, 0, 1, 1 << (f.P - 1), r.Next() & full, 1 << r.Below(f.P), full << r.Below(f.P) & full} {
				size := r.Next() & full
				all = append(all, []uint64{great, size, less, small, 0}, []uint64{less, small, great, size, 1})
			}
		}
		most := uint64(1)<<f.Wide - 1
		for gap := range most {
			lay(most, most-gap)
			lay(gap+1, 1)
			for less := uint64(2); f.Bits == 16 && less+gap < most; less++ {
				lay(less+gap, less)
			}
		}
		same(t, f, aligns(f), all)
	}
}

// P20.3

// chosen is what Choose must tell: of what is said first by the document first.
func chosen(f format.Form) func(v []uint64) []uint64 {
	return func(v []uint64) []uint64 {
		bits, flags, inf, sign, wrong, none, is, signal := v[0], v[1], v[2], v[3], v[4], v[5], v[6], v[7]
		switch {
		case is == 1:
			return []uint64{none, api.Invalid * signal}
		case wrong == 1:
			return []uint64{f.None(), api.Invalid}
		case inf == 1:
			return []uint64{f.Infinite(sign == 1), 0}
		}
		return []uint64{bits, flags}
	}
}

// Each choice of what holds, with words that are unlike each other.
func TestChoose(t *testing.T) {
	for _, f := range oracle.Forms() {
		c := probe.Case[*build.B]{New: build.New, Ins: []int{f.Bits, 5, 1, 1, 1, f.Bits, 1, 1}, Wides: []int{f.Bits, 5}, Lay: func(b *build.B, x [][]int) [][]int {
			bits, flags := fadd.Choose(b, f, x[0], x[1], x[2][0], x[3][0], x[4][0], x[5], x[6][0], x[7][0])
			return [][]int{bits, flags}
		}, Want: probe.Numbers(chosen(f), f.Bits, 5)}
		r := probe.NewRule(uint64(203 * f.Bits))
		mask := oracle.Full(f)
		var all [][]uint64
		for holds := range uint64(32) {
			for _, flags := range []uint64{0, 1, 3, 5, 8, 16, 31} {
				for _, bits := range []uint64{0, mask, r.Next() & mask} {
					none := r.Next() & mask
					all = append(all, []uint64{bits, flags, holds & 1, holds >> 1 & 1, holds >> 2 & 1, none, holds >> 3 & 1, holds >> 4})
				}
			}
		}
		same(t, f, c, all)
	}
}

// P20.4

// Sums of two numbers, and of infinite ones, can be turned about.
func TestTurnedAbout(t *testing.T) {
	for _, f := range oracle.Forms() {
		var here, there [][]uint64
		for _, p := range oracle.Pairs(f, 5) {
			if !oracle.IsNone(f, p) {
				here, there = append(here, append([]uint64{0}, p...)), append(there, []uint64{0, p[1], p[0]})
			}
		}
		c := lays(f)
		if fault := c.Unlike(oracle.ByModes(here), c.Told(oracle.ByModes(there))); fault != "" {
			t.Errorf("%d bits: %s", f.Bits, fault)
		}
	}
}

// Forms that format.Of doesn't tell, and words of other lengths: no call panics.
func TestNoPanic(t *testing.T) {
	for _, f := range []format.Form{{}, {Bits: 16, P: 99, Wide: 5}, {Bits: -1, P: -1, Wide: -1}, oracle.Forms()[0]} {
		for _, width := range []int{0, 1, 20} {
			b := build.New()
			x := b.In("x", width)
			bit := b.Bit(0)
			bits, _ := fadd.Lay(b, f, x, bit, x, x)
			first, _, _ := fadd.Align(b, f, num(x, x), unpack.Num{}, bit)
			all, _ := fadd.Choose(b, f, x, nil, bit, bit, bit, x, bit, bit)
			if f != oracle.Forms()[0] && len(bits)+len(first)+len(all) > 0 {
				t.Errorf("of %v: %v, %v, %v", f, bits, first, all)
			}
		}
	}
}

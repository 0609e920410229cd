package fmul_test

import (
	"testing"

	"slipstick/api"
	"slipstick/build"
	"slipstick/fmul"
	"slipstick/format"
	"slipstick/oracle"
	"slipstick/probe"
	"slipstick/unpack"
)

// lays is the case of products.
func lays(f format.Form) probe.Case[*build.B] {
	return probe.Case[*build.B]{New: build.New, Ins: []int{3, f.Bits, f.Bits}, Wides: []int{f.Bits, 5}, Lay: func(b *build.B, x [][]int) [][]int {
		bits, flags := fmul.Lay(b, f, x[0], x[1], x[2])
		return [][]int{bits, flags}
	}, Want: probe.Numbers(oracle.Product(f), f.Bits, 5)}
}

// same holds a case of a format against what it must tell of numbers.
func same(t *testing.T, f format.Form, c probe.Case[*build.B], all [][]uint64) {
	t.Helper()
	if fault := c.AmissOf(all); fault != "" {
		t.Errorf("%d bits: %s", f.Bits, fault)
	}
}

// P21.1

// The chapter's example, and words written out.
func TestWrittenOut(t *testing.T) {
	var in, want [][]uint64
	const inexact, under, over = api.Inexact, api.Underflow | api.Inexact, api.Overflow | api.Inexact
	for _, c := range []struct{ mode, x, y, bits, flags uint64 }{
		{api.Even, 0x4000, 0x4200, 0x4600, 0}, {api.Even, 0xc000, 0x4200, 0xc600, 0}, {api.Down, 0xc000, 0xc200, 0x4600, 0},
		{api.Even, 0x3c01, 0x3c01, 0x3c02, inexact}, {api.Up, 0x3c01, 0x3c01, 0x3c03, inexact}, {api.Up, 0xbc01, 0x3c01, 0xbc02, inexact}, {api.Down, 0xbc01, 0x3c01, 0xbc03, inexact},
		{api.Even, 0x7c00, 0x0000, 0x7e00, api.Invalid}, {api.Even, 0x8000, 0x7c00, 0x7e00, api.Invalid}, {api.Zero, 0xfc00, 0x8000, 0x7e00, api.Invalid}, {api.Even, 0x7c00, 0x8001, 0xfc00, 0}, {api.Zero, 0xfc00, 0xfc00, 0x7c00, 0}, {api.Even, 0xbc00, 0x7c00, 0xfc00, 0},
		{api.Down, 0x0000, 0x3c00, 0x0000, 0}, {api.Even, 0x8000, 0x7bff, 0x8000, 0}, {api.Down, 0x8000, 0x8000, 0x0000, 0}, {api.Up, 0x0000, 0xbc00, 0x8000, 0},
		{api.Even, 0x0001, 0x3800, 0x0000, under}, {api.Away, 0x0001, 0x3800, 0x0001, under}, {api.Up, 0x8001, 0x0001, 0x8000, under}, {api.Down, 0x8001, 0x0001, 0x8001, under}, {api.Even, 0x0400, 0x3800, 0x0200, 0}, {api.Even, 0x0401, 0x3800, 0x0200, under}, {api.Even, 0x03ff, 0x3c01, 0x0400, under}, {api.Zero, 0x03ff, 0x3c01, 0x03ff, under},
		{api.Even, 0x7bff, 0x4000, 0x7c00, over}, {api.Zero, 0x7bff, 0x4000, 0x7bff, over}, {api.Down, 0xfbff, 0x7bff, 0xfc00, over}, {api.Up, 0xfbff, 0x7bff, 0xfbff, over}, {api.Away, 0xfbff, 0xfbff, 0x7c00, over},
		{api.Even, 0x7c01, 0x7e05, 0x7e01, api.Invalid}, {api.Even, 0x7e05, 0xfc01, 0x7e05, api.Invalid}, {api.Even, 0x3c00, 0xfe05, 0xfe05, 0}, {api.Even, 0x7e07, 0x0000, 0x7e07, 0}, {api.Even, 0x7c00, 0x7e07, 0x7e07, 0},
	} {
		in = append(in, []uint64{c.mode, c.x, c.y})
		want = append(want, []uint64{c.bits, c.flags})
	}
	if fault := lays(oracle.Forms()[0]).Unlike(in, want); fault != "" {
		t.Error(fault)
	}
}

// Words of each class with words of each class.
func TestEachClass(t *testing.T) {
	for _, f := range oracle.Forms() {
		same(t, f, lays(f), oracle.ByModes(oracle.Some(f)))
	}
}

// All words of 16 bits, with some others, and with themselves.
func TestAllWords(t *testing.T) {
	f := oracle.Forms()[0]
	var all [][]uint64
	for _, x := range oracle.Every() {
		for i, y := range []uint64{0x3c01, 0x83ff, 0x3bff, 0x1555, x} {
			mode := (x + uint64(i)) % 5
			all = append(all, []uint64{mode, x, y}, []uint64{mode, y, x})
		}
	}
	same(t, f, lays(f), all)
}

// Words of no rule.
func TestNoRule(t *testing.T) {
	for _, f := range oracle.Forms() {
		r := probe.NewRule(uint64(21 * f.Bits))
		var pairs [][]uint64
		for range 3000 {
			pairs = append(pairs, []uint64{r.Next() & oracle.Full(f), r.Next() & oracle.Full(f)})
		}
		same(t, f, lays(f), oracle.ByModes(pairs))
	}
}

// split are numbers whose product has the exponent field of a number, as far as that may be: so that it lies near there, below all, or beyond all.
func split(f format.Form, r *probe.Rule, field int) (uint64, uint64) {
	bias, most := f.Bias(), 1<<f.Wide-2
	least := max(1, field+bias-most)
	one := least + r.Below(max(min(most, field+bias-1)-least+1, 1))
	other := min(max(field+bias-one, 0), most)
	return uint64(one), uint64(other)
}

// Products at each place from below the least number to above the least normal one, and about the greatest one, of fractions of few bits, so that many lie halfway, and of no rule.
func TestEdges(t *testing.T) {
	for _, f := range oracle.Forms() {
		r := probe.NewRule(uint64(211 * f.Bits))
		most := 1<<f.Wide - 2
		var fields []int
		for field := -f.P - 4; field < 4; field++ {
			fields = append(fields, field)
		}
		var pairs [][]uint64
		for _, field := range append(fields, most-2, most-1, most, most+1, most+2, most+most/2) {
			for range 60 {
				one, other := split(f, r, field)
				unit := uint64(1) << (f.P - 1)
				few := unit >> (1 + r.Below(4)) * (r.Next() & 15) & (unit - 1)
				for _, x := range []uint64{few, r.Next() & (unit - 1), 0, unit - 1} {
					y := []uint64{0, 1, unit / 2, unit - 1, r.Next() & (unit - 1)}[r.Below(5)]
					sign := f.Nought(r.Below(2) == 1)
					pairs = append(pairs, []uint64{one*unit | x | sign, other*unit | y}, []uint64{other*unit | y, one*unit | x | sign})
				}
			}
		}
		same(t, f, lays(f), oracle.ByModes(pairs))
	}
}

// P21.2

// Each pair of Exps of 16 bits, and those at the edges of the others.
func TestPlace(t *testing.T) {
	for _, f := range oracle.Forms() {
		c := probe.Case[*build.B]{New: build.New, Ins: []int{f.Wide, f.Wide}, Wides: []int{f.Wide + 3}, Lay: func(b *build.B, x [][]int) [][]int {
			return [][]int{fmul.Place(b, f, unpack.Num{Exp: x[0]}, unpack.Num{Exp: x[1]})}
		}, Want: probe.Numbers(func(v []uint64) []uint64 {
			return []uint64{uint64(int(v[0]+v[1]) + f.Low() - 2)}
		}, f.Wide+3)}
		most := uint64(1)<<f.Wide - 1
		var all [][]uint64
		for x := range most + 1 {
			for _, y := range []uint64{0, 1, 2, most / 2, most/2 + 1, most - 1, most, most - x, x} {
				all = append(all, []uint64{x, y}, []uint64{y, x})
			}
			for y := uint64(0); f.Bits == 16 && y <= most; y++ {
				all = append(all, []uint64{x, y})
			}
		}
		same(t, f, c, all)
	}
}

// P21.3

// Products of two numbers, and of infinite ones, can be turned about.
func TestTurnedAbout(t *testing.T) {
	for _, f := range oracle.Forms() {
		var here, there [][]uint64
		for _, p := range oracle.Pairs(f, 5) {
			if !oracle.IsNone(f, p) {
				here, there = append(here, p), append(there, []uint64{p[1], p[0]})
			}
		}
		c := lays(f)
		if fault := c.Unlike(oracle.ByModes(here), c.Told(oracle.ByModes(there))); fault != "" {
			t.Errorf("%d bits: %s", f.Bits, fault)
		}
	}
}

// Forms that format.Of doesn't tell, and words of other lengths: no call panics.
func TestNoPanic(t *testing.T) {
	for _, f := range []format.Form{{}, {Bits: 16, P: 99, Wide: 5}, {Bits: -1, P: -1, Wide: -1}, oracle.Forms()[0]} {
		for _, width := range []int{0, 1, 20} {
			b := build.New()
			x := b.In("x", width)
			bits, _ := fmul.Lay(b, f, x, x, x)
			place := fmul.Place(b, f, unpack.Num{Exp: x}, unpack.Num{})
			if f != oracle.Forms()[0] && len(bits)+len(place) > 0 {
				t.Errorf("of %v: %v, %v", f, bits, place)
			}
		}
	}
}

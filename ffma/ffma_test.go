package ffma_test

import (
	"testing"

	"slipstick/api"
	"slipstick/build"
	"slipstick/ffma"
	"slipstick/format"
	"slipstick/ieee"
	"slipstick/oracle"
	"slipstick/probe"
	"slipstick/unpack"
)

// P22.1

// The chapter's example, and words written out.
func TestWrittenOut(t *testing.T) {
	var in, want [][]uint64
	const inexact, under, over = api.Inexact, api.Underflow | api.Inexact, api.Overflow | api.Inexact
	for _, c := range []struct{ mode, x, y, z, bits, flags uint64 }{
		{api.Even, 0x3c01, 0x3c01, 0xbc02, 0x0010, 0}, {api.Down, 0x3c01, 0xbc01, 0x3c02, 0x8010, 0}, {api.Even, 0x4000, 0x4200, 0x3c00, 0x4700, 0},
		{api.Even, 0x3c01, 0x3c01, 0x0000, 0x3c02, inexact}, {api.Up, 0x3c01, 0x3c01, 0x8001, 0x3c03, inexact}, {api.Even, 0x3c00, 0x3c00, 0x1000, 0x3c00, inexact}, {api.Even, 0x3c00, 0x3c00, 0x1001, 0x3c01, inexact},
		{api.Even, 0x0001, 0x0001, 0x3c00, 0x3c00, inexact}, {api.Down, 0x8001, 0x0001, 0x3c00, 0x3bff, inexact}, {api.Up, 0x0001, 0x0001, 0xbc00, 0xbbff, inexact}, {api.Up, 0x0001, 0x0001, 0x0001, 0x0002, under}, {api.Zero, 0x8001, 0x0001, 0x0001, 0x0000, under}, {api.Down, 0x8001, 0x0001, 0x0400, 0x03ff, under}, {api.Even, 0x8001, 0x0001, 0x0400, 0x0400, under},
		{api.Even, 0x3c00, 0x3c00, 0xbc00, 0x0000, 0}, {api.Down, 0x3c00, 0x3c00, 0xbc00, 0x8000, 0}, {api.Even, 0x0000, 0x3c00, 0x8000, 0x0000, 0}, {api.Down, 0x0000, 0x3c00, 0x8000, 0x8000, 0}, {api.Up, 0x8000, 0x3c00, 0x8000, 0x8000, 0}, {api.Down, 0x8000, 0xbc00, 0x0000, 0x0000, 0},
		{api.Even, 0x8001, 0x0001, 0x0000, 0x8000, under}, {api.Even, 0x0000, 0xbc00, 0x3c01, 0x3c01, 0}, {api.Even, 0x0000, 0x3c00, 0x8001, 0x8001, 0},
		{api.Even, 0x7bff, 0x4000, 0xfbff, 0x7bff, 0}, {api.Even, 0x7bff, 0x4000, 0x0000, 0x7c00, over}, {api.Zero, 0x7bff, 0x4000, 0xbc00, 0x7bff, over}, {api.Up, 0xfbff, 0x7bff, 0x7bff, 0xfbff, over},
		{api.Even, 0x7c00, 0x0000, 0x3c00, 0x7e00, api.Invalid}, {api.Even, 0x8000, 0x7c00, 0x7c00, 0x7e00, api.Invalid}, {api.Even, 0x7c00, 0x0000, 0xfe05, 0xfe05, api.Invalid}, {api.Even, 0x0000, 0xfc00, 0x7c05, 0x7e05, api.Invalid}, {api.Even, 0x7c00, 0x7e01, 0x7e05, 0x7e01, 0}, {api.Even, 0x7e03, 0x0000, 0x7c05, 0x7e03, api.Invalid},
		{api.Even, 0x7c00, 0x3c00, 0xfc00, 0x7e00, api.Invalid}, {api.Even, 0xfc00, 0x3c00, 0xfc00, 0xfc00, 0}, {api.Even, 0x3c00, 0x3c00, 0xfc00, 0xfc00, 0}, {api.Down, 0x7c00, 0xbc00, 0x3c00, 0xfc00, 0}, {api.Even, 0x7bff, 0x7bff, 0xfc00, 0xfc00, 0}, {api.Even, 0x3c00, 0x3c00, 0x7e09, 0x7e09, 0},
	} {
		in = append(in, []uint64{c.mode, c.x, c.y, c.z})
		want = append(want, []uint64{c.bits, c.flags})
	}
	if fault := lays(oracle.Forms()[0]).Unlike(in, want); fault != "" {
		t.Error(fault)
	}
}

// Words of each class in each of the three places.
func TestEachClass(t *testing.T) {
	for _, f := range oracle.Forms() {
		var triples [][]uint64
		for _, x := range few(f) {
			for _, y := range few(f) {
				for _, z := range few(f) {
					triples = append(triples, []uint64{x, y, z})
				}
			}
		}
		holds(t, f, triples)
	}
}

// All words of 16 bits in each of the three places, and words of no rule.
func TestAllWords(t *testing.T) {
	for _, f := range oracle.Forms() {
		r := probe.NewRule(uint64(22 * f.Bits))
		var all [][]uint64
		add := func(x, y, z uint64) { all = append(all, []uint64{uint64(r.Below(5)), x, y, z}) }
		for _, v := range oracle.Every() {
			x, y := r.Next()&oracle.Full(f), r.Next()&oracle.Full(f)
			add(x, y, r.Next()&oracle.Full(f))
			if f.Bits == 16 {
				add(v, x, y)
				add(x, v, y)
				add(x, y, v)
			}
		}
		same(t, f, lays(f), all)
	}
}

// apart are products and addends of each distance from far above to far below: products of each place, of numbers below the least normal one, too.
func apart(f format.Form, many int) [][]uint64 {
	r := probe.NewRule(uint64(221 * f.Bits))
	most := 1<<f.Wide - 2
	var triples [][]uint64
	for gap := -4*f.P - 12; gap <= 4*f.P+12; gap++ {
		for range many {
			x, y := between(f, r, r.Below(most+1)), between(f, r, r.Below(most+1))
			if r.Below(4) == 0 {
				x, y = between(f, r, r.Below(3)), between(f, r, f.Bias()+r.Below(2*f.P)-f.P)
			}
			if r.Below(2) == 0 {
				x, y = y, x
			}
			ex, _ := finite(f, x)
			ey, _ := finite(f, y)
			triples = append(triples, []uint64{x, y, between(f, r, ex+ey-f.Bias()+gap)})
		}
	}
	return triples
}

func TestApart(t *testing.T) {
	for _, f := range oracle.Forms() {
		holds(t, f, apart(f, 60))
	}
}

// What is left of a product when a number near it is taken off: wholly nothing, where the product is of few bits; its lowest bits, or a little more or less than these.
func TestCancelled(t *testing.T) {
	for _, f := range oracle.Forms() {
		r := probe.NewRule(uint64(222 * f.Bits))
		most, low := 1<<f.Wide-2, uint64(1)<<(f.P/2+1)-1
		var triples [][]uint64
		for range 4000 {
			x := between(f, r, r.Below(most+1))
			ex, _ := finite(f, x)
			y := between(f, r, 2*f.Bias()-ex+r.Below(8)-4)
			if r.Below(3) == 0 {
				x, y = x&^low, y&^low
			}
			z, _, e := ieee.Mul(f, r.Below(5), x, y)
			z = ieee.Turned(f, z)
			if e != api.OK || f.Class(z) != format.Normal {
				continue
			}
			for _, near := range []uint64{z, z + 1, z - 1} {
				if f.Class(near) == format.Normal {
					triples = append(triples, []uint64{x, y, near})
				}
			}
		}
		holds(t, f, triples)
	}
}

// P22.2

// All Exps of 16 bits, and those at the edges of the others.
func TestWay(t *testing.T) {
	for _, f := range oracle.Forms() {
		c := probe.Case[*build.B]{New: build.New, Ins: []int{f.Wide, f.Wide, f.Wide}, Wides: []int{f.Wide + 4}, Lay: func(b *build.B, x [][]int) [][]int {
			return [][]int{ffma.Way(b, f, unpack.Num{Exp: x[0]}, unpack.Num{Exp: x[1]}, unpack.Num{Exp: x[2]})}
		}, Want: probe.Numbers(func(v []uint64) []uint64 {
			return []uint64{uint64(way(f, int(v[0]), int(v[1]), int(v[2])))}
		}, f.Wide+4)}
		most := uint64(1)<<f.Wide - 1
		exps := []uint64{0, 1, 2, 3, most / 2, most/2 + 1, most - 1, most}
		for x := uint64(4); x < most; x += 1 + most/32 {
			exps = append(exps, x)
		}
		var all [][]uint64
		for _, x := range exps {
			for _, y := range exps {
				for _, z := range exps {
					all = append(all, []uint64{x, y, z})
				}
			}
		}
		same(t, f, c, all)
	}
}

// P22.3

// Finite words of each class in each place; products and addends of each distance, and each way about those where the addend begins to rule, and to be lost.
func TestWindow(t *testing.T) {
	for _, f := range oracle.Forms() {
		all := apart(f, 40)
		for _, x := range few(f) {
			for _, y := range few(f) {
				for _, z := range few(f) {
					all = append(all, []uint64{x, y, z})
				}
			}
		}
		var those [][]uint64
		for _, l := range all {
			if max(f.Class(l[0]), f.Class(l[1]), f.Class(l[2])) <= format.Normal {
				those = append(those, l)
			}
		}
		same(t, f, frames(f), those)
	}
}

// P22.4

// By 1 it is fadd's, of words of each class, those that are no numbers too; with a zero of the product's sign it is fmul's.
func TestAsFaddAndFmul(t *testing.T) {
	for _, f := range oracle.Forms() {
		var twos, byOne, oneBy, withZero [][]uint64
		for _, p := range oracle.Pairs(f, 11) {
			twos = append(twos, p)
			byOne, oneBy = append(byOne, []uint64{p[0], oracle.One(f), p[1]}), append(oneBy, []uint64{oracle.One(f), p[0], p[1]})
			withZero = append(withZero, []uint64{p[0], p[1], (p[0] ^ p[1]) & f.Nought(true)})
		}
		c, modes := lays(f), oracle.ByModes
		sum, product := sums(f).Told(modes(twos)), products(f).Told(modes(twos))
		for _, fault := range []string{c.Unlike(modes(byOne), sum), c.Unlike(modes(oneBy), sum), c.Unlike(modes(withZero), product)} {
			if fault != "" {
				t.Errorf("%d bits: %s", f.Bits, fault)
			}
		}
	}
}

// Forms that format.Of doesn't tell, and words of other lengths: no call panics.
func TestNoPanic(t *testing.T) {
	for _, f := range []format.Form{{}, {Bits: 16, P: 99, Wide: 5}, {Bits: -1, P: -1, Wide: -1}, oracle.Forms()[0]} {
		for _, width := range []int{0, 1, 20} {
			b := build.New()
			x := b.In("x", width)
			n := unpack.Num{Exp: x, Size: x}
			bits, _ := ffma.Lay(b, f, x, x, x, x)
			way, w := ffma.Way(b, f, n, unpack.Num{}, n), ffma.Window(b, f, n, unpack.Num{}, n)
			if f != oracle.Forms()[0] && len(bits)+len(way)+len(w.Product)+len(w.Addend)+len(w.Place) > 0 {
				t.Errorf("of %v: %v, %v, %v", f, bits, way, w)
			}
		}
	}
}

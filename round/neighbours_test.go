package round_test

import (
	"math"
	"math/big"
	"testing"

	"slipstick/api"
	"slipstick/dyad"
	"slipstick/format"
	"slipstick/nat"
	"slipstick/round"
)

// P4.2

// isPlain tells whether a number is in its plain form.
func isPlain(a dyad.Dyad) bool {
	if len(a.N) == 0 {
		return !a.Neg && a.E == 0
	}
	return a.N[0]%2 == 1 && a.N[len(a.N)-1] != 0
}

// neighbours is Neighbours of either sign, held against what is wanted of a number above 0.
func neighbours(t *testing.T, f format.Form, a, towards, away dyad.Dyad) {
	t.Helper()
	for _, neg := range []bool{false, true} {
		a.Neg, towards.Neg, away.Neg = neg, neg, neg
		first, second, e := round.Neighbours(f, a)
		if e != api.OK || !same(first, towards) || !same(second, away) {
			t.Errorf("%d bits: Neighbours of %v: %v, %v, %d, want %v, %v", f.Bits, a, first, second, e, towards, away)
		}
		if !isPlain(first) || !isPlain(second) {
			t.Errorf("%d bits: Neighbours of %v not plain: %v, %v", f.Bits, a, first, second)
		}
	}
}

// asked are the neighbours of a number above 0, by the document's words: multiples of 2 to its place.
func (c edges) asked(a dyad.Dyad) (dyad.Dyad, dyad.Dyad) {
	n := whole(a.N)
	at := max(a.E+n.BitLen()-1-(c.p-1), c.low)
	if at <= a.E {
		return a, a
	}
	unit := new(big.Int).Lsh(big.NewInt(1), uint(at-a.E))
	times, rest := new(big.Int).QuoRem(n, unit, new(big.Int))
	towards := dyad.Dyad{N: parts(times), E: at}
	if rest.Sign() == 0 {
		return towards, towards
	}
	return towards, dyad.Dyad{N: parts(times.Add(times, big.NewInt(1))), E: at}
}

// ask holds Neighbours against the document's words.
func (c edges) ask(t *testing.T, a dyad.Dyad) {
	t.Helper()
	towards, away := c.asked(a)
	neighbours(t, c.form(), a, towards, away)
}

func TestNeighboursWrittenOut(t *testing.T) {
	f, _ := format.Of(16)
	neighbours(t, f, dyad.Of(2049), dyad.Of(2048), dyad.Of(2050))
	neighbours(t, f, dyad.Of(2050), dyad.Of(2050), dyad.Of(2050))
	neighbours(t, f, dyad.Of(4095), dyad.Of(4094), dyad.Of(4096))
	neighbours(t, f, dyad.Of(4097), dyad.Of(4096), dyad.Of(4100))
	neighbours(t, f, dyad.Of(65505), dyad.Of(65504), dyad.Of(65536))
	// Beyond the greatest number, places go on.
	neighbours(t, f, dyad.Of(65536), dyad.Of(65536), dyad.Of(65536))
	neighbours(t, f, dyad.Of(65537), dyad.Of(65536), dyad.Of(65600))
	neighbours(t, f, dyad.Of(1<<20+1), dyad.Of(1<<20), dyad.Of(1<<20+1024))
	neighbours(t, f, number(1, -24), number(1, -24), number(1, -24))
	neighbours(t, f, number(1, -25), dyad.Of(0), number(1, -24))
	neighbours(t, f, number(1, -8192), dyad.Of(0), number(1, -24))
	neighbours(t, f, number(5, -26), number(1, -24), number(2, -24))
	neighbours(t, f, number(2047, -25), number(1023, -24), number(1, -14))
	neighbours(t, f, number(2049, -25), number(1, -14), number(1025, -24))
}

// Numbers of the format, and those between them.
func TestNeighboursAmongTheBits(t *testing.T) {
	for _, c := range allEdges() {
		all := c.sizes()
		if c.bits == 64 {
			all = append(all[:300], all[len(all)-600:]...)
		}
		for _, size := range append(all, c.infinite-1) {
			lower, upper := c.value(size), c.value(size+1)
			neighbours(t, c.form(), lower, lower, lower)
			neighbours(t, c.form(), c.middle(size), lower, upper)
		}
		for _, size := range append(c.few(), c.infinite-1) {
			lower, upper := c.value(size), c.value(size+1)
			for _, k := range []int{2, 31, 32, 33, 64, 1000, 3000} {
				neighbours(t, c.form(), finer(c.value(size), k, 1), lower, upper)
				neighbours(t, c.form(), finer(c.middle(size), k, -1), lower, upper)
				neighbours(t, c.form(), finer(c.middle(size), k, 1), lower, upper)
			}
		}
	}
}

func TestNeighboursByTheWords(t *testing.T) {
	for _, c := range allEdges() {
		unit := uint64(1) << c.p
		for _, n := range []uint64{1, 3, 7, unit/2 + 1, unit - 1, unit + 1, unit + 3, 2*unit - 1, 2*unit + 1, 3*unit - 1, 4*unit + 2, 0x9e3779b97f4a7c15, math.MaxUint64, math.MaxUint64 - 7} {
			for e := -8192; e <= 8000-64; e += 97 {
				c.ask(t, number(n, e))
			}
			for e := c.low - 80; e < c.low+10; e++ {
				c.ask(t, number(n, e))
			}
		}
		for _, n := range []nat.Nat{ones(4096), power(4095), ones(1000), append(power(3000), 0, 0), finer(number(1, 0), 4095, 1).N} {
			for _, e := range []int{-8192, -5000, -4096, c.low - 4095, c.low - 1000, c.low, 0, c.bias, 3000, 8000 - 4095} {
				c.ask(t, dyad.Dyad{N: n, E: e})
			}
		}
	}
}

func TestNeighboursOfNought(t *testing.T) {
	for _, c := range allEdges() {
		for _, a := range noughts() {
			neighbours(t, c.form(), a, dyad.Of(0), dyad.Of(0))
		}
	}
}

// What To tells is one of the neighbours, if that isn't beyond: by Zero that towards 0; by Down and Up the lesser and the greater one.
func TestRoundedToNeighbours(t *testing.T) {
	for _, c := range allEdges() {
		f := c.form()
		for _, size := range c.few() {
			for _, a := range []dyad.Dyad{finer(c.value(size), 9, 1), finer(c.middle(size), 9, -1), c.middle(size), finer(c.middle(size), 9, 1), c.value(size)} {
				towards, away, _ := round.Neighbours(f, a)
				for mode, want := range map[int]dyad.Dyad{api.Zero: towards, api.Down: towards, api.Up: away} {
					b, _, e := round.To(f, mode, a, false)
					if v, _ := f.Value(b); e != api.OK || !same(v, want) {
						t.Errorf("%d bits, mode %d: %v: %#x, %d, want %v", c.bits, mode, a, b, e, want)
					}
				}
				for _, mode := range []int{api.Even, api.Away} {
					b, _, e := round.To(f, mode, a, false)
					if v, _ := f.Value(b); e != api.OK || !same(v, towards) && !same(v, away) {
						t.Errorf("%d bits, mode %d: %v: %#x, %d, want %v or %v", c.bits, mode, a, b, e, towards, away)
					}
				}
			}
		}
	}
}

// tiny is Tiny of either sign, held against what is wanted.
func tiny(t *testing.T, f format.Form, a dyad.Dyad, want bool) {
	t.Helper()
	if round.Tiny(f, a) != want || round.Tiny(f, below(a)) != want {
		t.Errorf("%d bits: Tiny of %v: not %v", f.Bits, a, want)
	}
}

func TestTiny(t *testing.T) {
	for _, c := range allEdges() {
		f := c.form()
		for _, size := range c.sizes() {
			tiny(t, f, c.value(size), 0 < size && size < c.leastNormal)
			tiny(t, f, c.middle(size), size < c.leastNormal)
		}
		least := number(1, 1-c.bias)
		for _, k := range []int{0, 1, 31, 32, 100, 4095} {
			tiny(t, f, finer(least, k, 0), false)
			tiny(t, f, dyad.Dyad{N: ones(k + 1), E: -c.bias - k}, true)
		}
		for _, k := range []int{1, 2, 64, 4000} {
			tiny(t, f, finer(least, k, -1), true)
			tiny(t, f, finer(least, k, 1), false)
		}
		tiny(t, f, number(1, -8192), true)
		tiny(t, f, dyad.Dyad{N: ones(4096), E: -8192}, true)
		tiny(t, f, number(1, 0), false)
		tiny(t, f, number(1, 8000), false)
		for _, a := range noughts() {
			tiny(t, f, a, false)
		}
		for _, a := range mayNotBeRounded() {
			tiny(t, f, a, false)
		}
	}
}

func TestBeyond(t *testing.T) {
	for _, c := range allEdges() {
		f := c.form()
		greatest, infinite := c.infinite-1, c.infinite
		for mode, want := range map[int][2]uint64{
			api.Even: {infinite, infinite},
			api.Zero: {greatest, greatest},
			api.Down: {greatest, infinite},
			api.Up:   {infinite, greatest},
			api.Away: {infinite, infinite},
			// Of other modes as of Even.
			-1: {infinite, infinite}, -2: {infinite, infinite}, -3: {infinite, infinite}, 5: {infinite, infinite}, 6: {infinite, infinite}, 7: {infinite, infinite}, 8: {infinite, infinite}, 257: {infinite, infinite}, 1<<32 + 1: {infinite, infinite}, 1<<32 + 2: {infinite, infinite}, 1<<32 + 3: {infinite, infinite}, math.MaxInt: {infinite, infinite}, math.MinInt: {infinite, infinite},
		} {
			if above, under := round.Beyond(f, mode, false), round.Beyond(f, mode, true); above != want[0] || under != c.sign|want[1] {
				t.Errorf("%d bits, mode %d: %#x, %#x, want %#x, %#x", c.bits, mode, above, under, want[0], c.sign|want[1])
			}
		}
	}
}

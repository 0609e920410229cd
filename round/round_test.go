package round_test

import (
	"math"
	"math/bits"
	"testing"

	"slipstick/api"
	"slipstick/dyad"
	"slipstick/format"
	"slipstick/nat"
	"slipstick/round"
)

// P4.1

func TestExamples(t *testing.T) {
	const inexact, under, over = api.Inexact, api.Inexact | api.Underflow, api.Inexact | api.Overflow
	f, _ := format.Of(16)
	for _, c := range []struct {
		a     dyad.Dyad
		told  [api.Modes]uint64
		flags [api.Modes]int
	}{
		{dyad.Of(1), [5]uint64{0x3c00, 0x3c00, 0x3c00, 0x3c00, 0x3c00}, [5]int{}},
		{dyad.Of(-2047), [5]uint64{0xe7ff, 0xe7ff, 0xe7ff, 0xe7ff, 0xe7ff}, [5]int{}},
		{dyad.Of(2049), [5]uint64{0x6800, 0x6800, 0x6800, 0x6801, 0x6801}, [5]int{inexact, inexact, inexact, inexact, inexact}},
		{dyad.Of(2051), [5]uint64{0x6802, 0x6801, 0x6801, 0x6802, 0x6802}, [5]int{inexact, inexact, inexact, inexact, inexact}},
		{dyad.Of(-2049), [5]uint64{0xe800, 0xe800, 0xe801, 0xe800, 0xe801}, [5]int{inexact, inexact, inexact, inexact, inexact}},
		{dyad.Of(-2051), [5]uint64{0xe802, 0xe801, 0xe802, 0xe801, 0xe802}, [5]int{inexact, inexact, inexact, inexact, inexact}},
		{dyad.Of(4097), [5]uint64{0x6c00, 0x6c00, 0x6c00, 0x6c01, 0x6c00}, [5]int{inexact, inexact, inexact, inexact, inexact}},
		{dyad.Of(4099), [5]uint64{0x6c01, 0x6c00, 0x6c00, 0x6c01, 0x6c01}, [5]int{inexact, inexact, inexact, inexact, inexact}},
		{dyad.Of(65504), [5]uint64{0x7bff, 0x7bff, 0x7bff, 0x7bff, 0x7bff}, [5]int{}},
		{dyad.Of(65505), [5]uint64{0x7bff, 0x7bff, 0x7bff, 0x7c00, 0x7bff}, [5]int{inexact, inexact, inexact, over, inexact}},
		{dyad.Of(65519), [5]uint64{0x7bff, 0x7bff, 0x7bff, 0x7c00, 0x7bff}, [5]int{inexact, inexact, inexact, over, inexact}},
		{dyad.Of(65520), [5]uint64{0x7c00, 0x7bff, 0x7bff, 0x7c00, 0x7c00}, [5]int{over, inexact, inexact, over, over}},
		{dyad.Of(65521), [5]uint64{0x7c00, 0x7bff, 0x7bff, 0x7c00, 0x7c00}, [5]int{over, inexact, inexact, over, over}},
		{dyad.Of(-65520), [5]uint64{0xfc00, 0xfbff, 0xfc00, 0xfbff, 0xfc00}, [5]int{over, inexact, over, inexact, over}},
		{dyad.Of(65536), [5]uint64{0x7c00, 0x7bff, 0x7bff, 0x7c00, 0x7c00}, [5]int{over, over, over, over, over}},
		{dyad.Of(-65536), [5]uint64{0xfc00, 0xfbff, 0xfc00, 0xfbff, 0xfc00}, [5]int{over, over, over, over, over}},
		{dyad.Of(math.MaxInt64), [5]uint64{0x7c00, 0x7bff, 0x7bff, 0x7c00, 0x7c00}, [5]int{over, over, over, over, over}},
		{dyad.Of(math.MinInt64), [5]uint64{0xfc00, 0xfbff, 0xfc00, 0xfbff, 0xfc00}, [5]int{over, over, over, over, over}},
		{number(1, -24), [5]uint64{1, 1, 1, 1, 1}, [5]int{}},
		{number(3, -25), [5]uint64{2, 1, 1, 2, 2}, [5]int{under, under, under, under, under}},
		{number(1, -25), [5]uint64{0, 0, 0, 1, 1}, [5]int{under, under, under, under, under}},
		{below(number(1, -25)), [5]uint64{0x8000, 0x8000, 0x8001, 0x8000, 0x8001}, [5]int{under, under, under, under, under}},
		{number(1, -26), [5]uint64{0, 0, 0, 1, 0}, [5]int{under, under, under, under, under}},
		{below(number(1, -26)), [5]uint64{0x8000, 0x8000, 0x8001, 0x8000, 0x8000}, [5]int{under, under, under, under, under}},
		{number(2047, -25), [5]uint64{0x0400, 0x03ff, 0x03ff, 0x0400, 0x0400}, [5]int{under, under, under, under, under}},
		{number(2049, -25), [5]uint64{0x0400, 0x0400, 0x0400, 0x0401, 0x0401}, [5]int{inexact, inexact, inexact, inexact, inexact}},
	} {
		for mode := range api.Modes {
			to(t, f, mode, c.a, false, c.told[mode], c.flags[mode])
			to(t, f, mode, c.a, true, c.told[mode], c.flags[mode])
		}
	}
}

// Numbers of some bits, at places all over a format's and beyond both its ends.
func TestOrdinary(t *testing.T) {
	for _, c := range allEdges() {
		unit, all := uint64(1)<<c.p, uint64(math.MaxUint64)
		for _, n := range []uint64{1, 3, 5, 7, 1021, unit/2 - 1, unit/2 + 1, unit - 1, unit, unit + 1, unit + 3, 2*unit - 1, 2*unit + 1, 2*unit + 3, 3*unit - 1, 3*unit + 1, 4*unit - 1, 0x9e3779b97f4a7c15, all, all >> 1, all << 1} {
			step := max(1, c.bias/150)
			for e := c.low - 70; e <= c.bias+5; e += step {
				c.check(t, number(n, e))
			}
			// All places at the ends, whatever the step.
			for e := c.low - 5; e <= c.low+5; e++ {
				c.check(t, number(n, e))
			}
			last := c.bias + 1 - bits.Len64(n)
			for e := last - 3; e <= last+2; e++ {
				c.check(t, number(n, e))
			}
		}
	}
}

// Of 16 bits, all numbers of up to 13 bits.
func TestSmall(t *testing.T) {
	c := allEdges()[0]
	for n := uint64(1); n < 1<<13; n += 2 {
		for _, e := range []int{-39, -38, -37, -36, -30, -27, -26, -25, -24, -12, 0, 3, 4, 5, 6} {
			c.check(t, number(n, e))
		}
	}
}

// By Even the machine rounds so, too.
func TestAgainstTheMachine(t *testing.T) {
	scattered := uint64(0x2545f4914f6cdd1d)
	for _, c := range allEdges()[1:] {
		for e := c.low - 70; e <= c.bias+5; e++ {
			scattered = scattered*6364136223846793005 + 1442695040888963407
			for _, n := range []uint64{scattered, scattered >> 1 & 0x3ffffff, scattered >> 5, scattered | 1<<63, scattered&^uint64(0xfff) | 1} {
				a := number(n, e)
				var want uint64
				if c.bits == 64 {
					v, _ := rational(a).Float64()
					want = math.Float64bits(v)
				} else {
					v, _ := rational(a).Float32()
					want = uint64(math.Float32bits(v))
				}
				if got, _, err := round.To(c.form(), api.Even, a, false); got != want || err != api.OK {
					t.Errorf("%d bits: %v: %#x, %d, want %#x", c.bits, a, got, err, want)
				}
			}
		}
	}
}

// What is a format's number is rounded to itself, without flags.
func TestNumbersOfTheFormat(t *testing.T) {
	for _, c := range allEdges() {
		for _, size := range c.sizes() {
			if size != 0 {
				c.exactly(t, c.value(size), size)
			}
		}
		// And not plain, with 0s below the lowest 1 and parts 0 at the end.
		for _, size := range c.few()[1:] {
			a := c.value(size)
			for _, k := range []int{1, 31, 32, 33, 64, 1000} {
				b := finer(a, k, 0)
				b.N = append(b.N, 0, 0, 0)
				c.exactly(t, b, size)
			}
		}
	}
}

// Just half way between neighbours, a little less and a little more. The rules are written out: by each mode whether it goes to the neighbour away from 0, of a number above 0; below 0 Down and Up change places.
func TestHalfWay(t *testing.T) {
	for _, c := range allEdges() {
		for _, size := range c.few() {
			goesOn := [3][api.Modes]bool{{false, false, false, true, false}, {size%2 == 1, false, false, true, true}, {true, false, false, true, true}}
			for at, rule := range goesOn {
				for _, k := range []int{1, 2, 31, 32, 33, 64, 100, 1000, 3000} {
					a := finer(c.middle(size), k, int64(at-1))
					c.goes(t, a, size, rule)
					rule[api.Down], rule[api.Up] = rule[api.Up], rule[api.Down]
					c.goes(t, below(a), size, rule)
					rule[api.Down], rule[api.Up] = rule[api.Up], rule[api.Down]
				}
			}
		}
	}
}

// goes holds To of a number between a size and the next one against a rule.
func (c edges) goes(t *testing.T, a dyad.Dyad, size uint64, rule [api.Modes]bool) {
	t.Helper()
	flags := api.Inexact
	if size < c.leastNormal {
		flags |= api.Underflow
	}
	for mode, on := range rule {
		want := size
		if on {
			want++
		}
		to(t, c.form(), mode, a, !a.Neg, c.signed(a.Neg, want), flags)
	}
}

// All middles of 16 bits, and many of the others.
func TestMiddles(t *testing.T) {
	for _, c := range allEdges() {
		all := c.sizes()
		if c.bits == 64 {
			all = append(all[:300], all[len(all)-600:]...)
		}
		for _, size := range all {
			c.check(t, c.middle(size))
		}
	}
}

// Half the least subnormal one and less, down to the least that may be taken.
func TestBelowTheLeast(t *testing.T) {
	for _, c := range allEdges() {
		const flags = api.Inexact | api.Underflow
		for _, a := range []dyad.Dyad{number(1, c.low-2), finer(number(1, c.low-1), 5, -1), {N: ones(4096), E: c.low - 4097}, number(1, c.low-100), number(3, -8192), number(1, -8192), {N: ones(4096), E: -8192}, {N: power(4095), E: -8192}} {
			for mode, size := range [api.Modes]uint64{0, 0, 0, 1, 0} {
				to(t, c.form(), mode, a, true, size, flags)
			}
			for mode, size := range [api.Modes]uint64{0, 0, 1, 0, 0} {
				to(t, c.form(), mode, below(a), false, c.sign|size, flags)
			}
		}
		half := number(1, c.low-1)
		for mode, size := range [api.Modes]uint64{0, 0, 0, 1, 1} {
			to(t, c.form(), mode, half, true, size, flags)
		}
		for mode, size := range [api.Modes]uint64{0, 0, 1, 0, 1} {
			to(t, c.form(), mode, below(half), false, c.sign|size, flags)
		}
	}
}

// Just below the least normal one, from which rounding leads up to it: the number's size counts, not what is told.
func TestUpToTheLeastNormal(t *testing.T) {
	for _, c := range allEdges() {
		const flags = api.Inexact | api.Underflow
		for _, k := range []int{c.p + 1, c.p + 2, 100, 1000, 4096} {
			a := dyad.Dyad{N: ones(k), E: 1 - c.bias - k}
			for mode, less := range [api.Modes]uint64{0, 1, 1, 0, 0} {
				to(t, c.form(), mode, a, false, c.leastNormal-less, flags)
			}
			for mode, less := range [api.Modes]uint64{0, 1, 0, 1, 0} {
				to(t, c.form(), mode, below(a), false, c.sign|(c.leastNormal-less), flags)
			}
		}
		// A little above it, nothing is below any more.
		a := finer(c.value(c.leastNormal), 500, 1)
		for mode, more := range [api.Modes]uint64{0, 0, 0, 1, 0} {
			to(t, c.form(), mode, a, false, c.leastNormal+more, api.Inexact)
		}
	}
}

// The greatest number, and what is above it by less than a place.
func TestAboutTheGreatest(t *testing.T) {
	for _, c := range allEdges() {
		greatest := c.value(c.infinite - 1)
		c.exactly(t, greatest, c.infinite-1)
		middle := c.middle(c.infinite - 1)
		for _, k := range []int{1, 2, 32, 100, 3000} {
			c.over(t, finer(greatest, k+1, 1), [api.Modes]bool{api.Up: true})
			c.over(t, finer(middle, k, -1), [api.Modes]bool{api.Up: true})
			c.over(t, finer(middle, k, 0), [api.Modes]bool{api.Even: true, api.Up: true, api.Away: true})
			c.over(t, finer(middle, k, 1), [api.Modes]bool{api.Even: true, api.Up: true, api.Away: true})
			// The last one ahead of the next power of 2, which Down and Zero still bring back without Overflow.
			c.over(t, finer(number(1, c.bias+1), 2*c.p+k, -1), [api.Modes]bool{api.Even: true, api.Up: true, api.Away: true})
		}
	}
}

// over holds To of a number less than a place above the greatest one against what is written out: by which modes it is beyond, above 0; below 0 Down and Up change places.
func (c edges) over(t *testing.T, a dyad.Dyad, beyond [api.Modes]bool) {
	t.Helper()
	for _, neg := range []bool{false, true} {
		a.Neg = neg
		for mode, is := range beyond {
			want, flags := c.infinite-1, api.Inexact
			if is {
				want, flags = c.infinite, api.Inexact|api.Overflow
			}
			to(t, c.form(), mode, a, !neg, c.signed(neg, want), flags)
		}
		beyond[api.Down], beyond[api.Up] = beyond[api.Up], beyond[api.Down]
	}
}

// From the power of 2 that is next to the greatest one on, all are beyond, by each mode.
func TestFarBeyond(t *testing.T) {
	for _, c := range allEdges() {
		const flags = api.Inexact | api.Overflow
		for _, a := range []dyad.Dyad{number(1, c.bias+1), finer(number(1, c.bias+1), 4000, 1), number(3, c.bias), number(1<<c.p-1, c.bias), number(1, c.bias+2), {N: power(4095), E: 1000}, {N: ones(4096), E: 0}, number(1, 8000), {N: ones(4096), E: 8000 - 4095}} {
			for mode, size := range [api.Modes]uint64{c.infinite, c.infinite - 1, c.infinite - 1, c.infinite, c.infinite} {
				to(t, c.form(), mode, a, true, size, flags)
			}
			for mode, size := range [api.Modes]uint64{c.infinite, c.infinite - 1, c.infinite, c.infinite - 1, c.infinite} {
				to(t, c.form(), mode, below(a), false, c.sign|size, flags)
			}
		}
	}
}

// noughts are all the forms in which 0 may be written.
func noughts() []dyad.Dyad {
	var all []dyad.Dyad
	for _, n := range []nat.Nat{nil, {}, {0}, {0, 0, 0}, make(nat.Nat, 500)} {
		for _, e := range []int{0, 1, -1, -8192, 8192, 8000, 8001, 100, -1074} {
			all = append(all, dyad.Dyad{N: n, E: e}, dyad.Dyad{Neg: true, N: n, E: e})
		}
	}
	return all
}

// A 0 has the sign that is asked for, whatever its own.
func TestNought(t *testing.T) {
	for _, c := range allEdges() {
		for _, a := range noughts() {
			for mode := range api.Modes {
				to(t, c.form(), mode, a, false, 0, 0)
				to(t, c.form(), mode, a, true, c.sign, 0)
			}
		}
	}
}

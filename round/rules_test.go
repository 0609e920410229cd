package round_test

import (
	"math"
	"slices"
	"testing"

	"slipstick/api"
	"slipstick/dyad"
	"slipstick/format"
	"slipstick/nat"
	"slipstick/round"
)

// mayBeRounded are numbers at the edge of what may be rounded.
func mayBeRounded() []dyad.Dyad {
	return []dyad.Dyad{
		number(1, 8000), number(3, 7999), number(1<<63, 8000-63), number(math.MaxUint64, 8000-63),
		{N: power(4095), E: 8000 - 4095}, {N: ones(4096), E: 8000 - 4095}, {N: append(power(40), 0, 0), E: 8000 - 40},
		number(1, -8192), {N: ones(4096), E: -8192}, {N: power(4095), E: -8192},
	}
}

// mayNotBeRounded are numbers that may not be taken; whose plain form may not; and whose Top is more than 8000.
func mayNotBeRounded() []dyad.Dyad {
	return []dyad.Dyad{
		number(1, 8193), number(1, -8193), number(0, 8193), number(0, -8193), {E: math.MaxInt}, {E: math.MinInt}, number(1, math.MaxInt), number(1, math.MinInt), number(2, -8193),
		{N: power(4096)}, {N: power(4096), E: -4096}, {N: power(4096), E: -8192}, {N: ones(4097), E: -6000}, {N: power(9000), E: -8193},
		number(2, 8192), number(1<<40, 8192), {N: power(4095), E: 8192}, {N: power(4095), E: 8193 - 4095},
		number(1, 8001), number(3, 8000), number(1, 8002), number(1, 8192), number(1<<63, 8001-63), number(math.MaxUint64, 8001-63), {N: power(4095), E: 8001 - 4095}, {N: ones(4096), E: 8001 - 4095}, {N: power(1), E: 8000},
	}
}

// P4.1 and P4.2: what may be rounded, up to its last.
func TestMayBeRounded(t *testing.T) {
	for _, c := range allEdges() {
		f := c.form()
		for _, a := range mayBeRounded() {
			c.check(t, a)
			c.ask(t, a)
			if _, _, e := round.Neighbours(f, below(a)); e != api.OK {
				t.Errorf("%d bits: Neighbours of %v: %d", c.bits, below(a), e)
			}
		}
	}
}

// refused holds To against an error and zero values beside it.
func refused(t *testing.T, f format.Form, mode int, a dyad.Dyad, want api.Errno) {
	t.Helper()
	for _, neg := range []bool{false, true} {
		if b, flags, e := round.To(f, mode, a, neg); b != 0 || flags != 0 || e != want {
			t.Errorf("%d bits, mode %d: To of %v: %#x, %d, %d, want %d", f.Bits, mode, a, b, flags, e, want)
		}
	}
}

func TestRange(t *testing.T) {
	for _, c := range allEdges() {
		f := c.form()
		for _, above := range mayNotBeRounded() {
			for _, a := range []dyad.Dyad{above, below(above)} {
				for mode := range api.Modes {
					refused(t, f, mode, a, api.ErrRange)
				}
				first, second, e := round.Neighbours(f, a)
				for _, n := range []dyad.Dyad{first, second} {
					if n.Neg || len(n.N) != 0 || n.E != 0 || e != api.ErrRange {
						t.Errorf("%d bits: Neighbours of %v: %v, %v, %d", c.bits, a, first, second, e)
					}
				}
			}
		}
	}
}

// The mode is asked first.
func TestWrongModes(t *testing.T) {
	numbers := append(mayNotBeRounded(), dyad.Of(0), dyad.Of(1), dyad.Of(-2049), number(1, -100), number(1, 7000), dyad.Dyad{Neg: true})
	for _, c := range allEdges() {
		for _, mode := range []int{-1, -2, -5, 5, 6, 8, 256, 1 << 32, math.MaxInt, math.MinInt} {
			for _, a := range numbers {
				refused(t, c.form(), mode, a, api.ErrArg)
			}
		}
	}
}

// P4.3

// ladder are numbers from the least to the greatest, those that are the format's among them, and 0.
func (c edges) ladder() []dyad.Dyad {
	all := []dyad.Dyad{dyad.Of(0), number(1, -8192), number(1, c.low-500), finer(number(1, c.low-1), 3, -1)}
	for _, size := range append(c.few(), c.infinite-1) {
		all = append(all, c.value(size), finer(c.value(size), 8, 1), finer(c.middle(size), 8, -1), c.middle(size), finer(c.middle(size), 8, 1))
		all = append(all, finer(c.value(size+1), 8, -1), c.value(size+1))
	}
	all = append(all, finer(c.value(c.infinite), 9, 1), number(1, c.bias+2), number(1, 4000), number(1, 8000))
	for _, a := range slices.Clone(all) {
		all = append(all, below(a))
	}
	slices.SortFunc(all, func(a, b dyad.Dyad) int { return rational(a).Cmp(rational(b)) })
	return all
}

// step tells where bits stand among those of all numbers, the infinite ones at both ends; both zeros are one.
func (c edges) step(b uint64) int64 {
	if b&c.sign != 0 {
		return -int64(b &^ c.sign)
	}
	return int64(b)
}

// A greater number is never rounded to a lesser one, neither by the same mode nor from Down to Up.
func TestGreaterIsNeverLess(t *testing.T) {
	for _, c := range allEdges() {
		f, all := c.form(), c.ladder()
		for mode := range api.Modes {
			last := c.step(c.sign | c.infinite)
			for i, a := range all {
				b, _, e := round.To(f, mode, a, i%2 == 0)
				if at := c.step(b); e != api.OK || at < last {
					t.Errorf("%d bits, mode %d: %v: %#x, %d, less than what is told of %v", c.bits, mode, a, b, e, all[i-1])
				}
				last = c.step(b)
			}
		}
		for _, a := range all {
			down, _, _ := round.To(f, api.Down, a, false)
			up, _, _ := round.To(f, api.Up, a, false)
			for _, mode := range []int{api.Even, api.Zero, api.Away} {
				if b, _, _ := round.To(f, mode, a, false); c.step(b) < c.step(down) || c.step(b) > c.step(up) {
					t.Errorf("%d bits, mode %d: %v: %#x isn't from %#x to %#x", c.bits, mode, a, b, down, up)
				}
			}
		}
	}
}

// Of the other sign it is the same, but for Down and Up, which change places.
func TestTheOtherSign(t *testing.T) {
	other := [api.Modes]int{api.Even: api.Even, api.Zero: api.Zero, api.Down: api.Up, api.Up: api.Down, api.Away: api.Away}
	for _, c := range allEdges() {
		f := c.form()
		for _, a := range c.ladder() {
			for mode, turned := range other {
				for _, neg := range []bool{false, true} {
					b, flags, _ := round.To(f, mode, a, neg)
					if got, gotFlags, e := round.To(f, turned, below(a), !neg); got != b^c.sign || gotFlags != flags || e != api.OK {
						t.Errorf("%d bits, mode %d: %v: %#x, %d; of the other sign %#x, %d, %d", c.bits, mode, a, b, flags, got, gotFlags, e)
					}
				}
			}
			for mode, turned := range other {
				if round.Beyond(f, mode, a.Neg) != round.Beyond(f, turned, !a.Neg)^c.sign {
					t.Errorf("%d bits, mode %d: Beyond", c.bits, mode)
				}
			}
		}
	}
}

// What is told, rounded again by any mode, stays.
func TestRoundedStays(t *testing.T) {
	for _, c := range allEdges() {
		f := c.form()
		for _, a := range c.ladder() {
			for mode := range api.Modes {
				b, _, _ := round.To(f, mode, a, a.Neg)
				v, e := f.Value(b)
				if e != api.OK {
					continue // infinite
				}
				for again := range api.Modes {
					to(t, f, again, v, f.Neg(b), b, 0)
				}
			}
		}
	}
}

// scribble writes over all of a list's memory.
func scribble(a nat.Nat) {
	a = a[:cap(a)]
	for i := range a {
		a[i] ^= 0x5a5a5a5a
	}
}

// R3 and R4: arguments stay as they were, with the memory behind them, and the same call answers the same.
func TestArgumentsStay(t *testing.T) {
	for _, c := range allEdges() {
		f := c.form()
		for _, n := range []nat.Nat{{}, {0, 0}, {1}, {12}, {7, 0, 0}, {0, 3, 0}, {2049}, {math.MaxUint32, math.MaxUint32, 1}, power(4095), ones(4096), power(4096)} {
			for _, at := range []int{-8193, -4095, c.low - 1, c.low, -32, 0, 3, c.bias, 8000, 8192, 8193} {
				memory := append(slices.Clone(n), 0xaaaa, 0xbbbb)
				was := slices.Clone(memory)
				a := dyad.Dyad{Neg: true, N: memory[:len(n)], E: at}
				for mode := range api.Modes + 1 {
					b, flags, e := round.To(f, mode, a, true)
					again, flagsAgain, eAgain := round.To(f, mode, a, true)
					if again != b || flagsAgain != flags || eAgain != e {
						t.Errorf("%d bits: To of %v: %#x, then %#x", c.bits, a, b, again)
					}
				}
				round.Neighbours(f, a)
				round.Tiny(f, a)
				if !slices.Equal(memory, was) || a.E != at || !a.Neg || len(a.N) != len(n) {
					t.Fatalf("%d bits: %v at %d was changed", c.bits, n, at)
				}
			}
		}
	}
}

// R3: neighbours share nothing, neither with the argument nor with each other, and nothing of them is kept.
func TestNeighboursAreNew(t *testing.T) {
	for _, c := range allEdges() {
		f := c.form()
		for _, a := range c.ladder() {
			a.N = append(slices.Clone(a.N), 0, 0)
			was := slices.Clone(a.N)
			first, second, _ := round.Neighbours(f, a)
			keptFirst, keptSecond := slices.Clone(first.N), slices.Clone(second.N)
			scribble(first.N)
			if !slices.Equal(second.N, keptSecond) || !slices.Equal(a.N, was) {
				t.Fatalf("%d bits: what is told of %v shares memory", c.bits, a)
			}
			scribble(second.N)
			if !slices.Equal(a.N, was) {
				t.Fatalf("%d bits: what is told of %v shares memory with it", c.bits, a)
			}
			again, secondAgain, _ := round.Neighbours(f, a)
			if !slices.Equal(again.N, keptFirst) || !slices.Equal(secondAgain.N, keptSecond) {
				t.Errorf("%d bits: Neighbours of %v: other ones when asked again", c.bits, a)
			}
			kept := slices.Clone(again.N)
			scribble(a.N)
			if !slices.Equal(again.N, kept) || !slices.Equal(secondAgain.N, keptSecond) {
				t.Errorf("%d bits: Neighbours hang on an argument's memory", c.bits)
			}
		}
	}
}

// Nothing is promised of forms that format.Of doesn't tell, but that no call panics.
func TestOtherForms(t *testing.T) {
	sizes := []int{math.MinInt, -65, -1, 0, 1, 2, 63, 64, 65, 1000, math.MaxInt}
	numbers := []dyad.Dyad{{}, number(1, 0), below(number(3, -30)), number(math.MaxUint64, 7000), {N: power(4095), E: -8192}, number(1, 8193)}
	for _, bits := range sizes {
		for _, p := range sizes {
			for _, wide := range sizes {
				f := format.Form{Bits: bits, P: p, Wide: wide}
				for _, a := range numbers {
					for mode := -1; mode <= api.Modes; mode++ {
						round.To(f, mode, a, true)
						round.Beyond(f, mode, a.Neg)
					}
					round.Neighbours(f, a)
					round.Tiny(f, a)
				}
			}
		}
	}
}

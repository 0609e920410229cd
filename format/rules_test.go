package format_test

import (
	"math"
	"slices"
	"testing"

	"slipstick/api"
	"slipstick/dyad"
	"slipstick/format"
	"slipstick/nat"
)

// scribble writes over all of a list's memory.
func scribble(a nat.Nat) {
	a = a[:cap(a)]
	for i := range a {
		a[i] ^= 0x5a5a5a5a
	}
}

// R3: what is put stays as it was, with the memory behind it.
func TestArgumentsStay(t *testing.T) {
	for _, c := range allEdges() {
		f := c.form(t)
		for _, n := range []nat.Nat{{}, {0, 0}, {1}, {12}, {7, 0, 0}, {0, 3, 0}, {math.MaxUint32, math.MaxUint32, 1}, power(4095), power(4096)} {
			for _, e := range []int{-8193, -4095, c.low - 1, c.low, -32, 0, 3, c.bias, 8192, 8193} {
				memory := append(slices.Clone(n), 0xaaaa, 0xbbbb)
				was := slices.Clone(memory)
				a := dyad.Dyad{Neg: true, N: memory[:len(n)], E: e}
				first, firstError := f.Put(a)
				if !slices.Equal(memory, was) || a.E != e || !a.Neg {
					t.Fatalf("%d bits: Put of %v at %d changed it", c.bits, n, e)
				}
				// R4: the same call answers the same.
				if second, secondError := f.Put(a); second != first || secondError != firstError {
					t.Errorf("%d bits: Put of %v at %d: %#x, then %#x", c.bits, n, e, first, second)
				}
			}
		}
	}
}

// R3 and R5: each answer is new memory: what is written into one is not to be seen in another.
func TestValuesAreNew(t *testing.T) {
	for _, c := range allEdges() {
		f := c.form(t)
		for _, b := range []uint64{0, c.leastSub, c.greatestSub, c.leastNormal, c.one, c.greatest, c.sign | c.one} {
			first, _ := f.Value(b)
			kept := slices.Clone(first.N)
			scribble(first.N)
			if second, e := f.Value(b); e != api.OK || !slices.Equal(second.N, kept) {
				t.Errorf("%d bits: Value(%#x) %v, %d", c.bits, b, second, e)
			}
		}
	}
}

// Of is asked again after a form was written over: the table isn't handed out.
func TestFormsAreNew(t *testing.T) {
	f, _ := format.Of(16)
	f.P, f.Wide, f.Bits = 1, 2, 3
	if again, e := format.Of(16); e != api.OK || again != (format.Form{Bits: 16, P: 11, Wide: 5}) {
		t.Errorf("%v, %d", again, e)
	}
}

// Nothing is promised of forms that Of doesn't tell, but that no call panics.
func TestOtherForms(t *testing.T) {
	sizes := []int{math.MinInt, -65, -1, 0, 1, 2, 63, 64, 65, 1000, math.MaxInt}
	numbers := []dyad.Dyad{{}, number(1, 0), below(number(3, -30)), number(math.MaxUint64, 8192), {N: power(4095), E: -8192}, number(1, 8193)}
	for _, bits := range sizes {
		for _, p := range sizes {
			for _, wide := range sizes {
				f := format.Form{Bits: bits, P: p, Wide: wide}
				f.Bias()
				f.Low()
				f.None()
				for _, neg := range []bool{false, true} {
					f.Infinite(neg)
					f.Greatest(neg)
					f.Nought(neg)
				}
				for _, b := range []uint64{0, 1, 0x3c00, 1 << 63, math.MaxUint64} {
					f.May(b)
					f.Class(b)
					f.Neg(b)
					f.Quieted(b)
					f.Value(b)
				}
				for _, a := range numbers {
					f.Put(a)
				}
			}
		}
	}
}

package format_test

import (
	"math"
	"math/big"
	"slices"
	"testing"

	"slipstick/api"
	"slipstick/dyad"
	"slipstick/format"
	"slipstick/nat"
)

// power is 2^n, made without package nat.
func power(n int) nat.Nat {
	a := make(nat.Nat, n/32+1)
	a[n/32] = 1 << (n % 32)
	return a
}

// put is Put, held against what is wanted.
func put(t *testing.T, f format.Form, a dyad.Dyad, want uint64, wantError api.Errno) {
	t.Helper()
	if got, e := f.Put(a); got != want || e != wantError {
		t.Errorf("%d bits: Put of %v: %#x, %d, want %#x, %d", f.Bits, a, got, e, want, wantError)
	}
}

// putBoth is put of either sign.
func (c edges) putBoth(t *testing.T, a dyad.Dyad, size uint64) {
	t.Helper()
	f := c.form(t)
	put(t, f, a, size, api.OK)
	put(t, f, below(a), c.sign|size, api.OK)
}

// refuse is put of either sign of a number that is none of the format's.
func (c edges) refuse(t *testing.T, a dyad.Dyad) {
	t.Helper()
	f := c.form(t)
	put(t, f, a, 0, api.ErrNone)
	put(t, f, below(a), 0, api.ErrNone)
}

// P3.4

func TestPutAtTheEdges(t *testing.T) {
	for _, c := range allEdges() {
		whole, last := uint64(1)<<(c.p-1), c.bias-c.p+1
		c.putBoth(t, number(1, c.low), c.leastSub)
		c.putBoth(t, number(3, c.low), 3)
		c.putBoth(t, number(whole-1, c.low), c.greatestSub)
		c.putBoth(t, number(1, 1-c.bias), c.leastNormal)
		c.putBoth(t, number(whole+1, c.low), c.leastNormal+1)
		c.putBoth(t, number(2*whole-1, c.low), 2*c.leastNormal-1)
		c.putBoth(t, number(1, 2-c.bias), 2*c.leastNormal)
		c.putBoth(t, number(1, 0), c.one)
		c.putBoth(t, number(2*whole-1, 1-c.p), c.one+c.leastNormal-1)
		c.putBoth(t, number(1, c.bias), c.infinite-c.leastNormal)
		c.putBoth(t, number(2*whole-1, last), c.greatest)
	}
}

func TestPutNought(t *testing.T) {
	for _, c := range allEdges() {
		f := c.form(t)
		for _, n := range []nat.Nat{nil, {}, {0}, {0, 0, 0}, make(nat.Nat, 500)} {
			for _, e := range []int{0, 1, -8192, 8192} {
				put(t, f, dyad.Dyad{N: n, E: e}, 0, api.OK)
				put(t, f, dyad.Dyad{Neg: true, N: n, E: e}, 0, api.OK)
			}
		}
	}
}

// Numbers needn't be plain: 0s below the lowest 1, and parts 0 at the end.
func TestPutNotPlain(t *testing.T) {
	for _, c := range allEdges() {
		for _, n := range []int{0, 1, 31, 32, 63, 64, 1000, 4095} {
			c.putBoth(t, dyad.Dyad{N: power(n), E: -n}, c.one)
			c.putBoth(t, dyad.Dyad{N: append(power(n), 0, 0, 0), E: c.low - n}, c.leastSub)
			c.putBoth(t, dyad.Dyad{N: power(n), E: c.bias - n}, c.infinite-c.leastNormal)
		}
		c.putBoth(t, dyad.Dyad{N: nat.Nat{0, 0, 0, 6, 0}, E: -98}, c.one+c.leastNormal/2)
	}
}

func TestPutTooGreat(t *testing.T) {
	for _, c := range allEdges() {
		c.refuse(t, number(1, c.bias+1))
		c.refuse(t, number(1<<(c.p-1)+1, c.bias-c.p+2))
		c.refuse(t, number(1<<c.p-1, c.bias-c.p+2))
		c.refuse(t, number(3, c.bias))
		c.refuse(t, dyad.Dyad{N: power(c.bias + 1)})
		// Its greatest number and half of its last place, by which rounding would go over.
		c.refuse(t, number(1<<(c.p+1)-1, c.bias-c.p))
		// Plain forms whose E may not be taken.
		c.refuse(t, number(1, 8192))
		c.refuse(t, number(2, 8192))
		c.refuse(t, dyad.Dyad{N: power(4095), E: 8192})
	}
}

func TestPutTooFine(t *testing.T) {
	for _, c := range allEdges() {
		c.refuse(t, number(1, c.low-1))
		c.refuse(t, number(3, c.low-1))
		c.refuse(t, number(1<<c.p-1, c.low-1))
		c.refuse(t, number(1<<(c.p-1)+1, c.low-1))
		c.refuse(t, number(1, -8192))
		c.refuse(t, number(1, c.low-2000))
		c.refuse(t, number(1<<(c.p-2)+1, c.low-1))
	}
}

func TestPutTooManyBits(t *testing.T) {
	for _, c := range allEdges() {
		for _, e := range []int{c.low, c.low + 1, -c.p, -1, 0, c.bias - c.p} {
			c.refuse(t, number(1<<c.p+1, e))
			c.refuse(t, number(1<<(c.p+1)-1, e))
			c.putBoth(t, number(1<<c.p, e), uint64(e+c.p+c.bias)<<(c.p-1))
		}
		long := power(4000)
		long[0] = 1
		c.refuse(t, dyad.Dyad{N: long, E: -4000})
		c.refuse(t, dyad.Dyad{N: long, E: -2000})
	}
}

func TestPutRange(t *testing.T) {
	long := power(4096)
	for _, c := range allEdges() {
		f := c.form(t)
		for _, a := range []dyad.Dyad{
			number(1, 8193), number(1, -8193), number(2, -8193), number(1, math.MaxInt), number(1, math.MinInt), number(0, 8193), {Neg: true, E: -8193},
			// Told ahead of that it is none of the format's, and of that it is one.
			{N: long, E: 0}, {N: long, E: -4096}, {N: long, E: -8192}, {N: long, E: 9000},
		} {
			put(t, f, a, 0, api.ErrRange)
			put(t, f, below(a), 0, api.ErrRange)
		}
	}
}

// wanted tells the bits of a number by the machine's own rounding: those of a number that it doesn't change.
func (c edges) wanted(a dyad.Dyad, halves map[float64]uint64) (uint64, api.Errno) {
	r := rational(a)
	var b uint64
	switch c.bits {
	case 64:
		v, _ := r.Float64()
		b = math.Float64bits(v)
	case 32:
		v, _ := r.Float32()
		b = uint64(math.Float32bits(v))
	default:
		v, _ := r.Float64()
		b = halves[v]
	}
	if v := c.asFloat(b); math.IsInf(v, 0) || new(big.Rat).SetFloat64(v).Cmp(r) != 0 {
		return 0, api.ErrNone
	}
	return b, api.OK
}

// halves are all finite numbers of 16 bits, by what they are; 0 is that of sign 0.
func halves() map[float64]uint64 {
	all := map[float64]uint64{}
	c := allEdges()[0]
	for b := range c.infinite {
		all[-c.asFloat(b)] = c.sign | b
		all[c.asFloat(b)] = b
	}
	return all
}

// Numbers of some bits, at all places about a format's.
func TestPutAgainstTheMachine(t *testing.T) {
	known := halves()
	for _, c := range allEdges() {
		f := c.form(t)
		whole, all := uint64(1)<<c.p, uint64(math.MaxUint64)
		sizes := []uint64{0, 1, 2, 3, 5, 12, 1023, whole/2 - 1, whole / 2, whole/2 + 1, whole - 2, whole - 1, whole, whole + 1, whole + 2, 2*whole - 1, 2*whole - 2, 3 * whole, all, all << 11, all << 40, all << 53}
		for _, n := range sizes {
			for e := c.low - 70; e <= c.bias+5; e++ {
				for _, a := range []dyad.Dyad{number(n, e), below(number(n, e))} {
					want, wantError := c.wanted(a, known)
					put(t, f, a, want, wantError)
				}
			}
		}
	}
}

// Of 16 bits, all numbers of up to 12 bits.
func TestPutSmall(t *testing.T) {
	f, _ := format.Of(16)
	known := halves()
	for n := uint64(1); n < 1<<12; n++ {
		for e := -27; e <= 17; e++ {
			want, ok := known[math.Ldexp(float64(n), e)]
			wantError := api.OK
			if !ok {
				wantError = api.ErrNone
			}
			put(t, f, number(n, e), want, wantError)
		}
	}
}

// P3.5

func TestNumbersComeBack(t *testing.T) {
	for _, c := range allEdges() {
		f := c.form(t)
		for _, size := range c.samples() {
			for _, b := range c.both(size) {
				v, e := f.Value(b)
				if e != api.OK {
					continue
				}
				want := b
				if size == 0 {
					want = 0
				}
				put(t, f, v, want, api.OK)
			}
		}
	}
}

// Of one sign, bits go as sizes do: from the least to the greatest, and each number is another.
func TestBitsGoAsSizes(t *testing.T) {
	for _, c := range allEdges() {
		f := c.form(t)
		all := c.samples()
		for _, b := range c.samples() {
			all = append(all, b+1)
		}
		slices.Sort(all)
		all = slices.Compact(all)
		for i := 1; i < len(all) && all[i] <= c.greatest; i++ {
			lower, _ := f.Value(all[i-1])
			upper, e := f.Value(all[i])
			if got, _ := dyad.Cmp(lower, upper); got != -1 || e != api.OK {
				t.Fatalf("%d bits: %#x and %#x: %d", c.bits, all[i-1], all[i], got)
			}
			lower, _ = f.Value(c.sign | all[i-1])
			upper, e = f.Value(c.sign | all[i])
			if got, _ := dyad.Cmp(lower, upper); got != 1 || e != api.OK {
				t.Fatalf("%d bits, below 0: %#x and %#x: %d", c.bits, all[i-1], all[i], got)
			}
		}
	}
}

// Between two neighbours there is none of the format's numbers.
func TestNoneBetweenNeighbours(t *testing.T) {
	for _, c := range allEdges() {
		f := c.form(t)
		for _, b := range c.samples() {
			if b >= c.greatest {
				continue
			}
			lower, _ := f.Value(b)
			upper, _ := f.Value(b + 1)
			twice, _ := dyad.Add(lower, upper)
			middle, _ := dyad.Mul(twice, number(1, -1))
			c.refuse(t, middle)
		}
	}
}

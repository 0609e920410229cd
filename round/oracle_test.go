package round_test

import (
	"encoding/binary"
	"math/big"
	"slices"
	"sort"
	"testing"

	"slipstick/api"
	"slipstick/dyad"
	"slipstick/format"
	"slipstick/nat"
	"slipstick/round"
)

// What the document asks, worked out by the library's own numbers and by a format's bits: of one sign they go as the sizes do, and the infinite ones stand where the next size would be.

// edges are the bits that the document names, of one format, written out.
type edges struct {
	bits, p, wide, bias, low         int
	sign, leastNormal, one, infinite uint64
}

func allEdges() []edges {
	return []edges{
		{bits: 16, p: 11, wide: 5, bias: 15, low: -24, sign: 0x8000, leastNormal: 0x0400, one: 0x3c00, infinite: 0x7c00},
		{bits: 32, p: 24, wide: 8, bias: 127, low: -149, sign: 0x80000000, leastNormal: 0x00800000, one: 0x3f800000, infinite: 0x7f800000},
		{bits: 64, p: 53, wide: 11, bias: 1023, low: -1074, sign: 0x8000000000000000, leastNormal: 0x0010000000000000, one: 0x3ff0000000000000, infinite: 0x7ff0000000000000},
	}
}

// form is the format of those edges, as format.Of tells it.
func (c edges) form() format.Form {
	f, _ := format.Of(c.bits)
	return f
}

// signed are the bits of a size, with a sign.
func (c edges) signed(neg bool, size uint64) uint64 {
	if neg {
		return c.sign | size
	}
	return size
}

// parts are a size's, as a multiple of 2 to its place. Those of the infinite bits are of the size that would come next.
func (c edges) parts(size uint64) (uint64, int) {
	field, fraction := size>>(c.p-1), size&(c.leastNormal-1)
	if field == 0 {
		return fraction, c.low
	}
	return c.leastNormal | fraction, c.low + int(field) - 1
}

// value is the number of a size's bits.
func (c edges) value(size uint64) dyad.Dyad {
	n, e := c.parts(size)
	return dyad.Dyad{N: nat.Of(n), E: e}
}

// middle is the number half way from a size to the next one.
func (c edges) middle(size uint64) dyad.Dyad {
	n, e := c.parts(size)
	return dyad.Dyad{N: nat.Of(2*n + 1), E: e - 1}
}

// finer is a number plus so many times 2 to k places below its own.
func finer(a dyad.Dyad, k int, plus int64) dyad.Dyad {
	n := new(big.Int).Lsh(whole(a.N), uint(k))
	return dyad.Dyad{Neg: a.Neg, N: parts(n.Add(n, big.NewInt(plus))), E: a.E - k}
}

// whole says a number in the library's own way.
func whole(a nat.Nat) *big.Int {
	var bytes []byte
	for _, part := range slices.Backward(a) {
		bytes = binary.BigEndian.AppendUint32(bytes, part)
	}
	return new(big.Int).SetBytes(bytes)
}

// parts says it as a list of parts.
func parts(n *big.Int) nat.Nat {
	var a nat.Nat
	mask := big.NewInt(1<<32 - 1)
	for rest := new(big.Int).Set(n); rest.Sign() > 0; rest.Rsh(rest, 32) {
		a = append(a, uint32(new(big.Int).And(rest, mask).Uint64()))
	}
	return a
}

// rational says a dyad in the library's own way.
func rational(a dyad.Dyad) *big.Rat {
	n := whole(a.N)
	if a.Neg {
		n.Neg(n)
	}
	if a.E >= 0 {
		return new(big.Rat).SetInt(n.Lsh(n, uint(a.E)))
	}
	return new(big.Rat).SetFrac(n, new(big.Int).Lsh(big.NewInt(1), uint(-a.E)))
}

// same tells whether two numbers are the same, whatever their forms.
func same(a, b dyad.Dyad) bool { return rational(a).Cmp(rational(b)) == 0 }

// number is n times 2^e.
func number(n uint64, e int) dyad.Dyad { return dyad.Dyad{N: nat.Of(n), E: e} }

// below is the number of the other sign.
func below(a dyad.Dyad) dyad.Dyad {
	a.Neg = !a.Neg
	return a
}

// power is 2^n, made without package nat.
func power(n int) nat.Nat {
	a := make(nat.Nat, n/32+1)
	a[n/32] = 1 << (n % 32)
	return a
}

// ones is 2^n - 1.
func ones(n int) nat.Nat {
	a := whole(power(n))
	return parts(a.Sub(a, big.NewInt(1)))
}

// spot is where a number that isn't 0 lies among a format's sizes.
type spot struct {
	size         uint64 // the greatest one that is no more than the number's size
	exact        bool   // it is the number's size
	half         int    // how the number lies against the middle up to the next size
	tiny, beyond bool
}

// spotOf finds it; far beyond is where it lies from where the next size after the greatest would be.
func (c edges) spotOf(a dyad.Dyad) spot {
	fine := max(-a.E, -c.low) + 1
	wide := new(big.Int).Lsh(whole(a.N), uint(a.E+fine))
	at := func(size uint64) *big.Int {
		n, e := c.parts(size)
		m := new(big.Int).SetUint64(n)
		return m.Lsh(m, uint(e+fine))
	}
	s := spot{tiny: wide.Cmp(at(c.leastNormal)) < 0, beyond: wide.Cmp(at(c.infinite)) >= 0}
	if s.beyond {
		return s
	}
	s.size = uint64(sort.Search(int(c.infinite), func(i int) bool { return at(uint64(i)).Cmp(wide) > 0 })) - 1
	s.exact = at(s.size).Cmp(wide) == 0
	both := new(big.Int).Add(at(s.size), at(s.size+1))
	s.half = wide.Lsh(wide, 1).Cmp(both)
	return s
}

// goesOn tells whether a mode takes the next size, by a table of each mode's own.
func (s spot) goesOn(mode int, neg bool) bool {
	if s.exact {
		return false
	}
	switch mode {
	case api.Even:
		return s.half > 0 || s.half == 0 && s.size%2 == 1
	case api.Zero:
		return false
	case api.Down:
		return neg
	case api.Up:
		return !neg
	}
	return s.half >= 0
}

// told is what To is asked for, of a number that isn't 0.
func (c edges) told(s spot, mode int, neg bool) (uint64, int) {
	size := s.size
	if s.goesOn(mode, neg) {
		size++
	}
	switch {
	case s.beyond || size == c.infinite:
		return c.beyond(mode, neg), api.Overflow | api.Inexact
	case s.exact:
		return c.signed(neg, size), 0
	case s.tiny:
		return c.signed(neg, size), api.Underflow | api.Inexact
	}
	return c.signed(neg, size), api.Inexact
}

// beyond is what is told of a number beyond, written out.
func (c edges) beyond(mode int, neg bool) uint64 {
	size := c.infinite
	if mode == api.Zero || mode == api.Down && !neg || mode == api.Up && neg {
		size--
	}
	return c.signed(neg, size)
}

// to is To, held against what is wanted.
func to(t *testing.T, f format.Form, mode int, a dyad.Dyad, neg bool, want uint64, wantFlags int) {
	t.Helper()
	if got, flags, e := round.To(f, mode, a, neg); got != want || flags != wantFlags || e != api.OK {
		t.Errorf("%d bits, mode %d: To of %v: %#x, flags %d, %d, want %#x, flags %d", f.Bits, mode, a, got, flags, e, want, wantFlags)
	}
}

// check holds To of a number that isn't 0 against the oracle, of either sign, by all modes, whatever is asked of a 0's sign.
func (c edges) check(t *testing.T, a dyad.Dyad) {
	t.Helper()
	f, s := c.form(), c.spotOf(a)
	for mode := range api.Modes {
		for _, neg := range []bool{false, true} {
			a.Neg = neg
			want, wantFlags := c.told(s, mode, neg)
			to(t, f, mode, a, !neg, want, wantFlags)
			to(t, f, mode, a, neg, want, wantFlags)
		}
	}
}

// exactly is a check that a number is told without flags, by all modes.
func (c edges) exactly(t *testing.T, a dyad.Dyad, size uint64) {
	t.Helper()
	for mode := range api.Modes {
		for _, neg := range []bool{false, true} {
			a.Neg = neg
			to(t, c.form(), mode, a, !neg, c.signed(neg, size), 0)
		}
	}
}

// sizes are bits of finite numbers, those of infinite ones left out: all of a format of 16 bits; of the others those near each change of the exponent, and some scattered ones.
func (c edges) sizes() []uint64 {
	var all []uint64
	if c.bits == 16 {
		for b := range c.infinite {
			all = append(all, b)
		}
		return all
	}
	for field := uint64(0); field < 1<<c.wide-1; field++ {
		start := field << (c.p - 1)
		for _, fraction := range []uint64{0, 1, 2, c.leastNormal / 2, c.leastNormal/2 + 1, c.leastNormal - 2, c.leastNormal - 1} {
			all = append(all, start|fraction)
		}
	}
	scattered := uint64(0x9e3779b97f4a7c15)
	for range 1000 {
		scattered = scattered*6364136223846793005 + 1442695040888963407
		all = append(all, scattered>>(65-c.bits)%c.infinite)
	}
	return all
}

// few are some of those bits: the edges that the document names, with neighbours even and odd.
func (c edges) few() []uint64 {
	return []uint64{
		0, 1, 2, 3, c.leastNormal / 2, c.leastNormal/2 + 1, c.leastNormal - 2, c.leastNormal - 1,
		c.leastNormal, c.leastNormal + 1, 2*c.leastNormal - 2, 2*c.leastNormal - 1, 2 * c.leastNormal,
		c.one - 2, c.one - 1, c.one, c.one + 1, c.one + 2, c.infinite - c.leastNormal - 1, c.infinite - c.leastNormal, c.infinite - 2,
	}
}

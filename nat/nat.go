// Package nat is layer 1: see shared/doc/01-nat.md.
package nat

import (
	"cmp"
	"math/bits"

	"slipstick/api"
)

// MostBits is how many bits a number may have that is shifted, or multiplied.
const MostBits = 1 << 14

// partBits is how many bits a part has.
const partBits = 32

// Nat is a whole number: parts of 32 bits, the lowest one first.
type Nat []uint32

// cut leaves off the parts 0 at the end. The third index keeps whoever appends to what is left from writing over the parts behind it.
func (a Nat) cut() Nat {
	n := len(a)
	for n > 0 && a[n-1] == 0 {
		n--
	}
	return a[:n:n]
}

// both readies two numbers in the same way, so that they are held against each other in one form.
func both(ready func(Nat) Nat, a, b Nat) (Nat, Nat) {
	return ready(a), ready(b)
}

// part tells a part; beyond the last one all are 0, so that a shorter number goes along with a longer one.
func (a Nat) part(i int) uint32 {
	if i < len(a) {
		return a[i]
	}
	return 0
}

// Of tells a number.
func Of(n uint64) Nat {
	return Nat{uint32(n), uint32(n >> partBits)}.cut()
}

// Word tells a number of 64 bits.
func (a Nat) Word() (uint64, api.Errno) {
	if a.Len() > 2*partBits {
		return 0, api.ErrOver
	}
	return uint64(a.part(1))<<partBits | uint64(a.part(0)), api.OK
}

// Len tells how many bits it has.
func (a Nat) Len() int {
	a = a.cut()
	if len(a) == 0 {
		return 0
	}
	top := len(a) - 1
	return top*partBits + bits.Len32(a[top])
}

// Bit tells a bit.
func (a Nat) Bit(i int) int {
	if i < 0 {
		return 0
	}
	return int(a.part(i/partBits) >> (i % partBits) & 1)
}

// Zeros tells how many bits 0 are below its lowest 1.
func (a Nat) Zeros() int {
	for i, part := range a {
		if part != 0 {
			return i*partBits + bits.TrailingZeros32(part)
		}
	}
	return 0
}

// Cmp compares.
func Cmp(a, b Nat) int {
	a, b = both(Nat.cut, a, b)
	if len(a) != len(b) {
		return cmp.Compare(len(a), len(b))
	}
	for i := len(a) - 1; i >= 0; i-- {
		if a[i] != b[i] {
			return cmp.Compare(a[i], b[i])
		}
	}
	return 0
}

// Add tells a sum.
func Add(a, b Nat) Nat {
	a, b = both(Nat.cut, a, b)
	if len(a) < len(b) {
		a, b = b, a
	}
	sum := make(Nat, len(a)+1)
	carry := uint32(0)
	for i, part := range a {
		sum[i], carry = bits.Add32(part, b.part(i), carry)
	}
	sum[len(a)] = carry
	return sum.cut()
}

// Sub tells a difference.
func Sub(a, b Nat) (Nat, api.Errno) {
	a, b = both(Nat.cut, a, b)
	if Cmp(a, b) < 0 {
		return nil, api.ErrRange
	}
	rest := make(Nat, len(a))
	borrow := uint32(0)
	for i, part := range a {
		rest[i], borrow = bits.Sub32(part, b.part(i), borrow)
	}
	return rest.cut(), api.OK
}

// Mul tells a product.
func Mul(a, b Nat) (Nat, api.Errno) {
	a, b = both(Nat.cut, a, b)
	if a.Len()+b.Len() > MostBits {
		return nil, api.ErrOver
	}
	product := make(Nat, len(a)+len(b))
	for i, part := range a {
		product[i+len(b)] = addTimes(product[i:], b, part)
	}
	return product.cut(), api.OK
}

// addTimes adds b, taken times over, to the lowest parts of sum, and tells what is carried beyond them. A part times a part and two parts more are just within 64 bits.
func addTimes(sum, b Nat, times uint32) uint32 {
	carry := uint64(0)
	for i, part := range b {
		carry += uint64(part)*uint64(times) + uint64(sum[i])
		sum[i] = uint32(carry)
		carry >>= partBits
	}
	return uint32(carry)
}

// Left shifts to the left.
func (a Nat) Left(n int) (Nat, api.Errno) {
	if n < 0 {
		return nil, api.ErrArg
	}
	a = a.cut()
	if len(a) == 0 {
		return nil, api.OK
	}
	// Taken off, not added: a great n would wrap round.
	if a.Len() > MostBits-n {
		return nil, api.ErrOver
	}
	whole, rest := n/partBits, n%partBits
	shifted := make(Nat, whole+len(a)+1)
	for i, part := range a {
		wide := uint64(part) << rest
		shifted[whole+i] |= uint32(wide)
		shifted[whole+i+1] = uint32(wide >> partBits)
	}
	return shifted.cut(), api.OK
}

// Right shifts to the right.
func (a Nat) Right(n int) (Nat, bool) {
	n = max(n, 0)
	a = a.cut()
	lost := len(a) > 0 && a.Zeros() < n
	whole, rest := n/partBits, n%partBits
	if whole >= len(a) {
		return nil, lost
	}
	shifted := make(Nat, len(a)-whole)
	for i := range shifted {
		wide := uint64(a.part(whole+i+1))<<partBits | uint64(a[whole+i])
		shifted[i] = uint32(wide >> rest)
	}
	return shifted.cut(), lost
}

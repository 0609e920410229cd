package exact_test

import (
	"testing"

	"slipstick/build"
	"slipstick/exact"
	"slipstick/probe"
)

// signed is a size with a sign.
func signed(sign, size uint64) int {
	if sign == 1 {
		return -int(size)
	}
	return int(size)
}

// sum is what Sum must tell of two signs and sizes, of whether something is lost, and of the sign of a sum of 0.
func sum(v []uint64) []uint64 {
	// Twice as much, so that half of what is lost is a whole number, too.
	all := 2*signed(v[0], v[1]) + signed(v[2], 2*v[3]+v[4])
	sign := uint64(0)
	switch {
	case all < 0:
		sign, all = 1, -all
	case all == 0 && v[0] != v[2]:
		sign = v[5]
	case all == 0:
		sign = v[0]
	}
	return []uint64{sign, uint64(all / 2)}
}

// All sizes of few bits, with room for a sum, and all signs; what is lost of all second ones that are less than the first one.
func TestSum(t *testing.T) {
	for _, width := range []int{1, 2, 4, 5} {
		c := probe.Case[*build.B]{New: build.New, Ins: []int{1, width, 1, width, 1, 1}, Wides: []int{1, width}, Lay: func(b *build.B, x [][]int) [][]int {
			all := exact.Sum(b, exact.Term{Sign: x[0][0], Size: x[1]}, exact.Term{Sign: x[2][0], Size: x[3]}, x[4][0], x[5][0])
			return [][]int{{all.Sign}, all.Size}
		}, Want: probe.Numbers(sum, 1, width)}
		var all [][]uint64
		for x := range uint64(1) << (width - 1) {
			for y := range uint64(1) << (width - 1) {
				for rest := range uint64(16) {
					lost := rest >> 3
					if lost == 0 || y < x {
						all = append(all, []uint64{rest & 1, x, rest >> 1 & 1, y, lost, rest >> 2 & 1})
					}
				}
			}
		}
		if fault := c.Amiss(probe.Cycles(all, c.Ins...)); fault != "" {
			t.Error(fault)
		}
	}
}

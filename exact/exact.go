// Package exact lays exact sums of sizes with signs: of two numbers, or of a product and a number.
package exact

import (
	"slipstick/adder"
	"slipstick/api"
	"slipstick/build"
)

// Term is a size with a sign.
type Term struct {
	Sign int
	Size []int
}

// Sum lays the sum of two terms whose sizes have room for it; a sum of 0 of unlike signs has the sign down. If lost is 1, the second size was more, by something below 1, and the first one is greater than that: the sum's size is then told down to a whole number, as of unlike signs 1 more is taken off.
func Sum(b *build.B, x, y Term, lost, down int) Term {
	unlike := b.Xor(x.Sign, y.Sign)
	turned := make([]int, len(y.Size))
	for k := range turned {
		turned[k] = b.Xor(y.Size[k], unlike)
	}
	whole := b.And(unlike, b.Not(lost))
	sum, noLess := adder.Prefix(b, x.Size, turned, whole)
	neg := b.And(unlike, b.Not(noLess))
	nought := b.And(whole, b.Not(b.Fold(api.Or, sum)))
	return Term{Sign: b.Mux(b.Xor(x.Sign, neg), down, nought), Size: adder.Size(b, sum, neg)}
}

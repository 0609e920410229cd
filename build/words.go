package build

import (
	"slices"

	"slipstick/api"
	"slipstick/nat"
)

// Word lays a number.
func (b *B) Word(n nat.Nat, width int) []int {
	var x []int
	for k := range width {
		x = append(x, b.Bit(n.Bit(k)))
	}
	return x
}

// Pad fills a word up.
func (b *B) Pad(x []int, width int) []int {
	width = max(width, 0)
	if width <= len(x) {
		return slices.Clone(x[:width])
	}
	return slices.Concat(x, b.Word(nil, width-len(x)))
}

// gate tells by which of the builder's methods a kind of two bits is laid.
func (b *B) gate(kind int) func(x, y int) int {
	switch kind {
	case api.And:
		return b.And
	case api.Or:
		return b.Or
	}
	return b.Xor
}

// join lays, for each bit of two words, what puts it and that of the other together.
func (b *B) join(x, y []int, lay func(x, y int) int) []int {
	width := max(len(x), len(y))
	x, y = b.Pad(x, width), b.Pad(y, width)
	for k := range x {
		x[k] = lay(x[k], y[k])
	}
	return x
}

// turn lays, for each bit of a word, what turns it into another.
func turn(x []int, lay func(x int) int) []int {
	x = slices.Clone(x)
	for k := range x {
		x[k] = lay(x[k])
	}
	return x
}

// Each lays gates, bit by bit.
func (b *B) Each(kind int, x, y []int) []int {
	return b.join(x, y, b.gate(kind))
}

// Nots turns all bits.
func (b *B) Nots(x []int) []int {
	return turn(x, b.Not)
}

// Pick lays a choice of words.
func (b *B) Pick(x, y []int, c int) []int {
	return b.join(x, y, func(x, y int) int { return b.Mux(x, y, c) })
}

// halve lays what puts each two neighbours together; the last one of an odd number stays as it is.
func halve(x []int, lay func(x, y int) int) []int {
	var half []int
	for ; len(x) > 1; x = x[2:] {
		half = append(half, lay(x[0], x[1]))
	}
	return append(half, x...)
}

// Fold lays gates that put all bits together. All bits go up a level at a time, so that no way is longer than it must be.
func (b *B) Fold(kind int, x []int) int {
	if len(x) == 0 && kind == api.And {
		return b.Bit(1)
	}
	if len(x) == 0 {
		return b.Bit(0)
	}
	lay := b.gate(kind)
	for len(x) > 1 {
		x = halve(x, lay)
	}
	return x[0]
}

// Same lays a comparison.
func (b *B) Same(x, y []int) int {
	return b.Not(b.Fold(api.Or, b.Each(api.Xor, x, y)))
}

// Regs lays registers.
func (b *B) Regs(x []int, times int) []int {
	return turn(x, func(x int) int {
		for range times {
			x = b.Reg(x, 0)
		}
		return x
	})
}

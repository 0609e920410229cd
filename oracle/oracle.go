// Package oracle has formats, words of theirs, and what exact numbers tell of these, for the tests of the layers that lay gates for them.
package oracle

import (
	"slices"

	"slipstick/api"
	"slipstick/format"
	"slipstick/ieee"
	"slipstick/probe"
)

// Forms are all formats.
func Forms() []format.Form {
	var all []format.Form
	for _, bits := range []int{16, 32, 64} {
		if f, e := format.Of(bits); e == api.OK {
			all = append(all, f)
		}
	}
	return all
}

// Every are all words of 16 bits.
func Every() []uint64 {
	var all []uint64
	for v := range uint64(1 << 16) {
		all = append(all, v)
	}
	return all
}

// Words are words of a format: of each class and of both signs, those at its edges, and some of no rule.
func Words(f format.Form) []uint64 {
	r := probe.NewRule(uint64(f.P))
	full, bias, half := uint64(1)<<f.Wide-1, uint64(f.Bias()), uint64(1)<<(f.P-2)
	fields := []uint64{0, 1, 2, bias - 1, bias, bias + 1, full - 2, full - 1, full, r.Next() & full}
	fractions := []uint64{0, 1, 2, half - 1, half, half + 1, 2*half - 2, 2*half - 1, r.Next() & (2*half - 1)}
	var all []uint64
	for _, field := range fields {
		for _, fraction := range fractions {
			size := field<<(f.P-1) | fraction
			all = append(all, size, size|f.Nought(true))
		}
	}
	return all
}

// Pairs are pairs of those words: of all of them one of so many.
func Pairs(f format.Form, many int) [][]uint64 {
	var all [][]uint64
	for i, x := range Words(f) {
		for j, y := range Words(f) {
			if (i+j)%many == 0 {
				all = append(all, []uint64{x, y})
			}
		}
	}
	return all
}

// Some are as many of them as tests have the time for: all of 16 bits, of which the others are no other way than these.
func Some(f format.Form) [][]uint64 {
	if f.Bits == 16 {
		return Pairs(f, 1)
	}
	return Pairs(f, 7)
}

// IsNone tells whether one of some words is no number.
func IsNone(f format.Form, words []uint64) bool {
	return slices.ContainsFunc(words, func(v uint64) bool { return f.Class(v) > format.Inf })
}

// Full is the word of which all bits are 1.
func Full(f format.Form) uint64 { return f.Nought(true)<<1 - 1 }

// One is the word of the number 1.
func One(f format.Form) uint64 { return uint64(f.Bias()) << (f.P - 1) }

// ByModes lays each mode ahead of each list of numbers.
func ByModes(lists [][]uint64) [][]uint64 {
	var all [][]uint64
	for _, l := range lists {
		for mode := range uint64(api.Modes) {
			all = append(all, append([]uint64{mode}, l...))
		}
	}
	return all
}

// told is bits and flags; beside an error nothing, which is none of what may be told.
func told(bits uint64, flags int, e api.Errno) []uint64 {
	if e != api.OK {
		return nil
	}
	return []uint64{bits, uint64(flags)}
}

// Sum is what must be told of a mode, of whether it is a difference, and of two words.
func Sum(f format.Form) func(v []uint64) []uint64 {
	return func(v []uint64) []uint64 {
		if v[1] == 1 {
			return told(ieee.Sub(f, int(v[0]), v[2], v[3]))
		}
		return told(ieee.Add(f, int(v[0]), v[2], v[3]))
	}
}

// Product is what must be told of a mode and of two words.
func Product(f format.Form) func(v []uint64) []uint64 {
	return func(v []uint64) []uint64 { return told(ieee.Mul(f, int(v[0]), v[1], v[2])) }
}

// Both is what must be told of a mode and of three words.
func Both(f format.Form) func(v []uint64) []uint64 {
	return func(v []uint64) []uint64 { return told(ieee.Fma(f, int(v[0]), v[1], v[2], v[3])) }
}

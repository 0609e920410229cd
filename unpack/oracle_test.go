package unpack_test

import (
	"slices"
	"testing"

	"slipstick/build"
	"slipstick/dyad"
	"slipstick/format"
	"slipstick/nat"
	"slipstick/probe"
	"slipstick/unpack"
)

// one is a word of a bit.
func one(bit int) []int { return []int{bit} }

// patterns are words of a format: of 16 bits all, else those at the edges of each class, of both signs, and some of no rule.
func patterns(f format.Form) []uint64 {
	var all []uint64
	if f.Bits == 16 {
		for v := range uint64(1 << 16) {
			all = append(all, v)
		}
		return all
	}
	fractions := []uint64{0, 1, 2, 1<<(f.P-2) - 1, 1 << (f.P - 2), 1<<(f.P-2) + 1, 1<<(f.P-1) - 2, 1<<(f.P-1) - 1}
	most := uint64(1)<<f.Wide - 1
	r := probe.NewRule(uint64(f.Bits))
	fields := []uint64{0, 1, 2, most / 2, most/2 + 1, most - 2, most - 1, most}
	for range 40 {
		fields = append(fields, r.Next()&most)
		fractions = append(fractions, r.Next()&(1<<(f.P-1)-1))
	}
	for k := range f.P - 1 {
		fractions = append(fractions, 1<<k)
	}
	for k := range f.Wide {
		fields = append(fields, 1<<k)
	}
	for _, field := range fields {
		for _, fraction := range fractions {
			v := field<<(f.P-1) | fraction
			all = append(all, v, v|1<<(f.Bits-1))
		}
	}
	return all
}

// script is a cycle for each of some words.
func script(all []uint64, width int) [][][]int {
	var cycles [][][]int
	for _, v := range all {
		cycles = append(cycles, [][]int{probe.Bits(v, width)})
	}
	return cycles
}

// is is 1 for yes.
func is(v bool) int {
	if v {
		return 1
	}
	return 0
}

// flat is a number's parts, as words.
func flat(n unpack.Num) [][]int {
	return [][]int{one(n.Sign), n.Exp, n.Size, {n.Zero, n.Inf, n.None, n.Signal}}
}

// parts are what a number's parts must be, by the document's words.
func parts(f format.Form, v uint64) [][]int {
	fraction := v & (1<<(f.P-1) - 1)
	field := v >> (f.P - 1) & (1<<f.Wide - 1)
	size := fraction
	if field > 0 {
		size += 1 << (f.P - 1)
	}
	c := f.Class(v)
	return [][]int{
		one(is(f.Neg(v))), probe.Bits(max(field, 1), f.Wide), probe.Bits(size, f.P),
		{is(c == format.Naught), is(c == format.Inf), is(c == format.Quiet || c == format.Signal), is(c == format.Signal)},
	}
}

// holds holds what is laid of words of a format against what it must be.
func holds(t *testing.T, call string, c probe.Case[*build.B], cycles [][][]int) {
	t.Helper()
	c.New = build.New
	if fault := c.Amiss(cycles); fault != "" {
		t.Errorf("%s: %s", call, fault)
	}
}

// value is a finite number's size by its parts: Size times 2 to the power of Low and Exp less 1.
func value(f format.Form, exp, size []int) dyad.Dyad {
	return dyad.Dyad{N: nat.Of(probe.Number(size)), E: f.Low() + int(probe.Number(exp)) - 1}
}

// same tells whether words are the same.
func same(a, b [][]int) bool { return slices.EqualFunc(a, b, slices.Equal[[]int]) }

package fadd_test

import (
	"slices"
	"testing"

	"slipstick/build"
	"slipstick/fadd"
	"slipstick/format"
	"slipstick/oracle"
	"slipstick/probe"
	"slipstick/unpack"
)

// one is a word of a bit.
func one(bit int) []int { return []int{bit} }

// lays is the case of sums and differences.
func lays(f format.Form) probe.Case[*build.B] {
	return probe.Case[*build.B]{New: build.New, Ins: []int{3, 1, f.Bits, f.Bits}, Wides: []int{f.Bits, 5}, Lay: func(b *build.B, x [][]int) [][]int {
		bits, flags := fadd.Lay(b, f, x[0], x[1][0], x[2], x[3])
		return [][]int{bits, flags}
	}, Want: probe.Numbers(oracle.Sum(f), f.Bits, 5)}
}

// same holds a case of a format against what it must tell of numbers.
func same(t *testing.T, f format.Form, c probe.Case[*build.B], all [][]uint64) {
	t.Helper()
	if fault := c.AmissOf(all); fault != "" {
		t.Errorf("%d bits: %s", f.Bits, fault)
	}
}

// holds holds sums and differences of pairs of words, by each mode, against exact ones.
func holds(t *testing.T, f format.Form, pairs [][]uint64) {
	t.Helper()
	var all [][]uint64
	for _, p := range pairs {
		all = append(all, []uint64{0, p[0], p[1]}, []uint64{1, p[0], p[1]})
	}
	same(t, f, lays(f), oracle.ByModes(all))
}

// num are parts of which Exp and Size are told.
func num(exp, size []int) unpack.Num { return unpack.Num{Exp: exp, Size: size} }

// aligned is what Align must tell of Exp and Size of the first number, and of the second one: the first size in its place, and the second one likewise, moved down by as much as its Exp is less.
func aligned(f format.Form, x [][]int) [][]int {
	room := make([]int, f.P+2)
	first, second := slices.Concat(room, x[1], one(0)), slices.Concat(room, x[3], one(0))
	gap := min(int(probe.Number(x[0])-probe.Number(x[2])), len(second))
	lost := 0
	if slices.Contains(second[:gap], 1) {
		lost = 1
	}
	return [][]int{first, append(second[gap:], make([]int, gap)...), one(lost)}
}

// aligns is the case of two numbers' Exp and Size, and of whether they are turned about.
func aligns(f format.Form) probe.Case[*build.B] {
	return probe.Case[*build.B]{New: build.New, Ins: []int{f.Wide, f.P, f.Wide, f.P, 1}, Wides: []int{2*f.P + 3, 2*f.P + 3, 1}, Lay: func(b *build.B, x [][]int) [][]int {
		first, second, lost := fadd.Align(b, f, num(x[0], x[1]), num(x[2], x[3]), x[4][0])
		return [][]int{first, second, one(lost)}
	}, Want: func(x [][]int) [][]int {
		if x[4][0] == 1 {
			return aligned(f, [][]int{x[2], x[3], x[0], x[1]})
		}
		return aligned(f, x)
	}}
}

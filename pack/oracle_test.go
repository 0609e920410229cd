package pack_test

import (
	"slices"
	"testing"

	"slipstick/api"
	"slipstick/build"
	"slipstick/dyad"
	"slipstick/format"
	"slipstick/nat"
	"slipstick/pack"
	"slipstick/probe"
	"slipstick/round"
)

// one is a word of a bit.
func one(bit int) []int { return []int{bit} }

// of is a format.
func of(t *testing.T, bits int) format.Form {
	t.Helper()
	f, e := format.Of(bits)
	if e != api.OK {
		t.Fatalf("Of %d: %d", bits, e)
	}
	return f
}

// given is what is packed: a sign, a place and a size, whether there is something more, by a mode.
type given struct {
	mode, sign, place int
	size              []int
	more              int
}

// natural is a word's number.
func natural(word []int) nat.Nat {
	n := make(nat.Nat, len(word)/32+1)
	for k, bit := range word {
		n[k/32] |= uint32(bit) << (k % 32)
	}
	return n
}

// exact is the number that is packed. What is above 0 and below 1 is a half: no place at which is rounded is as low.
func exact(f format.Form, g given) dyad.Dyad {
	return dyad.Dyad{Neg: g.sign == 1, N: natural(append(one(g.more), g.size...)), E: f.Low() + g.place - 1}
}

// wanted is what must be told.
func wanted(t *testing.T, f format.Form, g given) (uint64, int) {
	t.Helper()
	mode := g.mode
	if mode >= api.Modes {
		mode = api.Zero
	}
	bits, flags, e := round.To(f, mode, exact(f, g), g.sign == 1)
	if e != api.OK {
		t.Fatalf("To of %v: %d", g, e)
	}
	if mode != g.mode && flags&api.Overflow != 0 {
		bits = f.Infinite(g.sign == 1)
	}
	return bits, flags
}

// packs is the case of sizes and places of so many bits.
func packs(f format.Form, place, size int) probe.Case[*build.B] {
	return probe.Case[*build.B]{New: build.New, Ins: []int{3, 1, place, size, 1}, Wides: []int{f.Bits, 5}, Lay: func(b *build.B, x [][]int) [][]int {
		bits, flags := pack.Round(b, f, x[0], x[1][0], x[2], x[3], x[4][0])
		return [][]int{bits, flags}
	}}
}

// may tells whether it may be packed.
func (g given) may(f format.Form) bool {
	high := slices.Clone(g.size)
	return g.more == 0 || len(high) > f.P+1 && slices.Contains(high[f.P+1:], 1)
}

// holds holds Round of all of these that may be packed, with places and sizes of so many bits, against exact numbers.
func holds(t *testing.T, f format.Form, place, size int, all []given) {
	t.Helper()
	n, fault := packs(f, place, size).Net()
	if fault != "" {
		t.Fatalf("Round of %d bits at %d, of %d: %s", size, place, f.Bits, fault)
	}
	var those []given
	var script [][][]int
	for _, g := range all {
		if g.may(f) {
			those = append(those, g)
			script = append(script, [][]int{probe.Bits(uint64(g.mode), 3), one(g.sign), probe.Bits(uint64(g.place), place), g.size, one(g.more)})
		}
	}
	for i, told := range probe.Tells(n, script) {
		g := those[i]
		bits, flags := wanted(t, f, g)
		if probe.Number(told[0]) != bits || probe.Number(told[1]) != uint64(flags) {
			t.Fatalf("Round of %d: mode %d, sign %d, size %v, more %d, place %d of %d bits: %x, %v; want %x, %d", f.Bits, g.mode, g.sign, g.size, g.more, g.place, place, probe.Number(told[0]), told[1], bits, flags)
		}
	}
}

// ways goes through all modes, signs, and lost bits.
func ways(sizes [][]int, places []int) []given {
	var all []given
	for _, size := range sizes {
		for _, place := range places {
			for mode := range 8 {
				for sign := range 2 {
					for more := range 2 {
						all = append(all, given{mode, sign, place, size, more})
					}
				}
			}
		}
	}
	return all
}

// every is all words of so many bits.
func every(width int) [][]int {
	var all [][]int
	for v := range uint64(1) << width {
		all = append(all, probe.Bits(v, width))
	}
	return all
}

// span is the numbers from one to another.
func span(from, to int) []int {
	var all []int
	for v := from; v <= to; v++ {
		all = append(all, v)
	}
	return all
}

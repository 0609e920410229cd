package unpack_test

import (
	"fmt"
	"math"
	"slices"
	"testing"

	"slipstick/api"
	"slipstick/build"
	"slipstick/dyad"
	"slipstick/format"
	"slipstick/oracle"
	"slipstick/probe"
	"slipstick/unpack"
)

// P18.1

// laid lays a word's parts.
func laid(f format.Form) probe.Case[*build.B] {
	return probe.Case[*build.B]{New: build.New, Ins: one(f.Bits), Wides: []int{1, f.Wide, f.P, 4}, Lay: func(b *build.B, x [][]int) [][]int {
		return flat(unpack.Of(b, f, x[0]))
	}, Want: func(x [][]int) [][]int { return parts(f, probe.Number(x[0])) }}
}

// All words of 16 bits; of the others those at the edges of each class, and some of no rule.
func TestOf(t *testing.T) {
	for _, f := range oracle.Forms() {
		holds(t, fmt.Sprint("Of, of ", f.Bits), laid(f), script(patterns(f), f.Bits))
	}
}

// The chapter's examples, and words written out.
func TestWrittenOut(t *testing.T) {
	f := oracle.Forms()
	for _, c := range []struct {
		f                             format.Form
		word, exp, size               uint64
		sign, zero, inf, none, signal int
	}{
		{f[0], 0x3c01, 15, 1025, 0, 0, 0, 0, 0}, {f[0], 0x0001, 1, 1, 0, 0, 0, 0, 0},
		{f[0], 0x0000, 1, 0, 0, 1, 0, 0, 0}, {f[0], 0x8000, 1, 0, 1, 1, 0, 0, 0}, {f[0], 0x03ff, 1, 1023, 0, 0, 0, 0, 0}, {f[0], 0x8400, 1, 1024, 1, 0, 0, 0, 0}, {f[0], 0x0800, 2, 1024, 0, 0, 0, 0, 0},
		{f[0], 0xfbff, 30, 2047, 1, 0, 0, 0, 0}, {f[0], 0x7c00, 31, 1024, 0, 0, 1, 0, 0}, {f[0], 0xfc00, 31, 1024, 1, 0, 1, 0, 0},
		{f[0], 0x7e00, 31, 1536, 0, 0, 0, 1, 0}, {f[0], 0x7c01, 31, 1025, 0, 0, 0, 1, 1}, {f[0], 0xfdff, 31, 1535, 1, 0, 0, 1, 1}, {f[0], 0xffff, 31, 2047, 1, 0, 0, 1, 0},
		{f[1], 0x3f800000, 127, 1 << 23, 0, 0, 0, 0, 0}, {f[1], 0x80000001, 1, 1, 1, 0, 0, 0, 0}, {f[1], 0x7f800000, 255, 1 << 23, 0, 0, 1, 0, 0}, {f[1], 0x7f800001, 255, 1<<23 + 1, 0, 0, 0, 1, 1}, {f[1], 0xffc00000, 255, 3 << 22, 1, 0, 0, 1, 0},
		{f[2], 0x3ff0000000000001, 1023, 1<<52 + 1, 0, 0, 0, 0, 0}, {f[2], 1 << 63, 1, 0, 1, 1, 0, 0, 0}, {f[2], 0x000fffffffffffff, 1, 1<<52 - 1, 0, 0, 0, 0, 0}, {f[2], 0x7fefffffffffffff, 2046, 1<<53 - 1, 0, 0, 0, 0, 0}, {f[2], 0xfff0000000000000, 2047, 1 << 52, 1, 0, 1, 0, 0}, {f[2], 0x7ff7ffffffffffff, 2047, 3<<51 - 1, 0, 0, 0, 1, 1}, {f[2], math.MaxUint64, 2047, 1<<53 - 1, 1, 0, 0, 1, 0},
	} {
		n, fault := laid(c.f).Net()
		told := probe.Tells(n, script([]uint64{c.word}, c.f.Bits))[0]
		want := [][]int{one(c.sign), probe.Bits(c.exp, c.f.Wide), probe.Bits(c.size, c.f.P), {c.zero, c.inf, c.none, c.signal}}
		if !same(told, want) || fault != "" {
			t.Errorf("%d bits, %x: %v, want %v; %s", c.f.Bits, c.word, told, want, fault)
		}
	}
}

// P18.2

// firstOf lays First of so many words: the word, and what there is.
func firstOf(f format.Form, many int) probe.Case[*build.B] {
	return probe.Case[*build.B]{New: build.New, Ins: slices.Repeat(one(f.Bits), many), Wides: []int{f.Bits, 2}, Lay: func(b *build.B, x [][]int) [][]int {
		first, none, signal := unpack.First(b, f, x...)
		return [][]int{first, {none, signal}}
	}}
}

// wanted is what First must tell of words: the bits, where there is one, and what there is.
func wanted(f format.Form, words []uint64) (first uint64, none, signal int) {
	for _, v := range words {
		switch f.Class(v) {
		case format.Signal:
			signal = 1
		case format.Quiet:
		default:
			continue
		}
		if none == 0 {
			first, none = f.Quieted(v), 1
		}
	}
	return first, none, signal
}

// firstHolds holds First of lists of words.
func firstHolds(t *testing.T, f format.Form, lists [][]uint64) {
	t.Helper()
	n, fault := firstOf(f, len(lists[0])).Net()
	if fault != "" {
		t.Fatalf("First of %d: %s", len(lists[0]), fault)
	}
	var cycles [][][]int
	for _, l := range lists {
		var words [][]int
		for _, v := range l {
			words = append(words, probe.Bits(v, f.Bits))
		}
		cycles = append(cycles, words)
	}
	for i, told := range probe.Tells(n, cycles) {
		first, none, signal := wanted(f, lists[i])
		if !slices.Equal(told[1], []int{none, signal}) || none == 1 && probe.Number(told[0]) != first {
			t.Fatalf("First of %d bits, %x: %x, %v; want %x, %d, %d", f.Bits, lists[i], probe.Number(told[0]), told[1], first, none, signal)
		}
	}
}

// kinds are words of each class, of both signs, of which those that are no numbers are unlike each other.
func kinds(f format.Form) []uint64 {
	top, inf, quiet := uint64(1)<<(f.Bits-1), f.Infinite(false), uint64(1)<<(f.P-2)
	return []uint64{0, top, 1, f.Greatest(false), inf, top | inf, inf | quiet, top | inf | quiet | 1, inf | 3, top | inf | (quiet - 1), inf | quiet | 6, inf | 1}
}

func TestFirst(t *testing.T) {
	for _, f := range oracle.Forms() {
		firstHolds(t, f, [][]uint64{{}})
		var twos, threes, fours [][]uint64
		for _, v := range patterns(f) {
			twos = append(twos, []uint64{v, v ^ 1<<(f.Bits-1)})
		}
		for _, p := range kinds(f) {
			firstHolds(t, f, [][]uint64{{p}})
			for _, q := range kinds(f) {
				twos = append(twos, []uint64{p, q})
				for _, r := range kinds(f) {
					threes = append(threes, []uint64{p, q, r})
					fours = append(fours, []uint64{p, q, r, p ^ q ^ r})
				}
			}
		}
		firstHolds(t, f, twos)
		firstHolds(t, f, threes)
		firstHolds(t, f, fours)
	}
	// Each word of 16 bits alone.
	var ones [][]uint64
	for v := range uint64(1 << 16) {
		ones = append(ones, []uint64{v})
	}
	firstHolds(t, oracle.Forms()[0], ones)
}

func TestPut(t *testing.T) {
	r := probe.NewRule(18)
	for _, f := range oracle.Forms() {
		all := []uint64{0, 1, f.None(), f.Infinite(true), f.Greatest(false), 1 << (f.Bits - 1), 1<<(f.Bits-1) - 1, math.MaxUint64, 1 << 63, 0x123456789abcdef0}
		for range 50 {
			all = append(all, r.Next())
		}
		for _, v := range all {
			low := v & (1<<(f.Bits-1) - 1)
			holds(t, fmt.Sprintf("Put of %x", v), probe.Case[*build.B]{Ins: one(1), Wides: one(f.Bits), Lay: func(b *build.B, x [][]int) [][]int {
				return [][]int{unpack.Put(b, f, x[0][0], v)}
			}, Want: func(x [][]int) [][]int {
				return [][]int{probe.Bits(low|uint64(x[0][0])<<(f.Bits-1), f.Bits)}
			}}, probe.Every(1))
		}
	}
}

// P18.3

// A finite number's size is its Size times 2 to the power of Low and Exp less 1.
func TestSizes(t *testing.T) {
	for _, f := range oracle.Forms() {
		n, _ := laid(f).Net()
		cycles := script(patterns(f), f.Bits)
		for i, told := range probe.Tells(n, cycles) {
			word := probe.Number(cycles[i][0])
			v, e := f.Value(word &^ (1 << (f.Bits - 1)))
			if finite := f.Class(word) <= format.Normal; finite != (e == api.OK) || finite && !dyad.Same(v, value(f, told[1], told[2])) {
				t.Fatalf("%d bits, %x: %v times 2^(Low + %v - 1)", f.Bits, word, told[2], told[1])
			}
		}
	}
}

// Forms that format.Of doesn't tell, and words of other lengths: no call panics.
func TestNoPanic(t *testing.T) {
	for _, f := range append(oracle.Forms(), format.Form{}, format.Form{Bits: 16, P: 99, Wide: 5}, format.Form{Bits: -1, P: -1, Wide: -1}, format.Form{Bits: 8, P: 4, Wide: 4}) {
		for _, width := range []int{0, 1, 15, 16, 17, 70} {
			b := build.New()
			x := b.In("x", width)
			unpack.Of(b, f, x)
			unpack.First(b, f, x, nil)
			unpack.First(b, f)
			unpack.Put(b, f, b.Bit(0), 5)
		}
	}
}

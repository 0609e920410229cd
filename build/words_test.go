package build_test

import (
	"fmt"
	"math"
	"math/bits"
	"slices"
	"testing"

	"slipstick/api"
	"slipstick/build"
	"slipstick/nat"
	"slipstick/net"
	"slipstick/probe"
)

// P8.2

func TestWord(t *testing.T) {
	for _, n := range []nat.Nat{nil, {}, {0}, {0, 0}, nat.Of(1), nat.Of(2), nat.Of(5), {5, 0, 0}, nat.Of(1<<32 - 1), nat.Of(1 << 32), nat.Of(0xdeadbeefcafef00d), nat.Of(math.MaxUint64), {1, 2, 3, 1 << 31}, {0, 0, 0, 0, 1}} {
		for _, width := range []int{math.MinInt, -1, 0, 1, 2, 3, 8, 31, 32, 33, 63, 64, 65, 128, 129, 200} {
			told := probe.Told(laid(t, nil, max(width, 0), func(b *build.B, _ [][]int) []int { return b.Word(n, width) }), [][][]int{nil, nil})
			for k := range max(width, 0) {
				want := 0
				if k/32 < len(n) {
					want = int(n[k/32] >> (k % 32) & 1)
				}
				if told[0][0][k] != want || told[1][0][k] != want {
					t.Errorf("Word of %v, %d bits: bit %d is %d", n, width, k, told[0][0][k])
				}
			}
		}
	}
}

func TestEach(t *testing.T) {
	for _, kind := range kinds() {
		for _, widths := range pairs(4) {
			call := fmt.Sprint("Each of kind ", kind)
			holds(t, call, widths, max(widths[0], widths[1]), func(b *build.B, x [][]int) []int { return b.Each(kind, x[0], x[1]) }, func(v []uint64) uint64 { return both(kind, v[0], v[1]) })
		}
	}
}

func TestNots(t *testing.T) {
	for width := range 7 {
		holds(t, "Nots", []int{width}, width, func(b *build.B, x [][]int) []int { return b.Nots(x[0]) }, func(v []uint64) uint64 { return v[0] ^ ones(width) })
	}
}

func TestPick(t *testing.T) {
	for _, widths := range pairs(4) {
		holds(t, "Pick", append(widths, 1), max(widths[0], widths[1]), func(b *build.B, x [][]int) []int { return b.Pick(x[0], x[1], x[2][0]) }, func(v []uint64) uint64 { return v[v[2]] })
	}
}

func TestPad(t *testing.T) {
	for width := range 5 {
		for _, to := range []int{math.MinInt, -1, 0, 1, 2, 3, 4, 5, 6, 40} {
			holds(t, fmt.Sprint("Pad to ", to), []int{width}, max(to, 0), func(b *build.B, x [][]int) []int { return b.Pad(x[0], to) }, func(v []uint64) uint64 { return v[0] & ones(max(to, 0)) })
		}
	}
}

// P8.3

// one is a word of a bit.
func one(bit int) []int { return []int{bit} }

// folded is what Fold tells of the bits of a number.
func folded(kind int, v uint64, width int) uint64 {
	switch kind {
	case api.And:
		if v == ones(width) {
			return 1
		}
		return 0
	case api.Or:
		return min(v, 1)
	}
	return uint64(bits.OnesCount64(v) % 2)
}

func TestFold(t *testing.T) {
	for _, kind := range kinds() {
		for width := range 10 {
			holds(t, fmt.Sprint("Fold of kind ", kind), []int{width}, 1, func(b *build.B, x [][]int) []int { return one(b.Fold(kind, x[0])) }, func(v []uint64) uint64 { return folded(kind, v[0], width) })
		}
	}
}

// Of many bits: no bit 1, each one alone, all but each one, all, and others.
func TestFoldOfMany(t *testing.T) {
	for _, width := range []int{15, 16, 17, 31, 32, 33, 63, 64, 65, 100, 256, 257} {
		script := [][][]int{{make([]int, width)}, {slices.Repeat(one(1), width)}}
		for k := range width {
			few, most := make([]int, width), slices.Repeat(one(1), width)
			few[k], most[k] = 1, 0
			script = append(script, [][]int{few}, [][]int{most})
		}
		for _, kind := range []int{api.And, api.Or, api.Xor} {
			n := laid(t, one(width), 1, func(b *build.B, x [][]int) []int { return one(b.Fold(kind, x[0])) })
			for i, outs := range probe.Told(n, script) {
				v := uint64(script[i][0][0])
				for _, bit := range script[i][0][1:] {
					v = both(kind, v, uint64(bit))
				}
				if uint64(outs[0][0]) != v {
					t.Errorf("Fold of kind %d, %v: %v, want %d", kind, script[i][0], outs[0], v)
				}
			}
		}
	}
}

// leastLevels is the least k of which 2^k is no less than a number.
func leastLevels(width int) int {
	k := 0
	for 1<<k < width {
		k++
	}
	return k
}

// No way leads over more gates than it must.
func TestFoldIsShallow(t *testing.T) {
	for _, kind := range kinds() {
		for width := range 300 {
			n := laid(t, one(max(width, 1)), 1, func(b *build.B, x [][]int) []int { return one(b.Fold(kind, x[0][:width])) })
			levels, e := net.Levels(n)
			if e != api.OK || levels[n.Outs[0].Bits[0]] > leastLevels(width) {
				t.Errorf("Fold of kind %d, %d bits: level %d, %d", kind, width, levels[n.Outs[0].Bits[0]], e)
			}
		}
	}
	n := laid(t, one(1<<15+1), 1, func(b *build.B, x [][]int) []int { return one(b.Fold(api.Or, x[0])) })
	if depth, e := net.Depth(n); e != api.OK || depth != 16 {
		t.Errorf("Fold of 2^15 + 1 bits: depth %d, %d", depth, e)
	}
}

func TestSame(t *testing.T) {
	same := func(b *build.B, x [][]int) []int { return one(b.Same(x[0], x[1])) }
	for _, widths := range pairs(5) {
		holds(t, "Same", widths, 1, same, func(v []uint64) uint64 {
			if v[0] == v[1] {
				return 1
			}
			return 0
		})
	}
	// Of many bits: the same, and with one bit that differs.
	for _, width := range []int{17, 64, 100} {
		r := probe.NewRule(uint64(width))
		n := laid(t, []int{width, width}, 1, same)
		var script [][][]int
		for k := range width {
			words := r.Script(n, 1)[0]
			words[1] = slices.Clone(words[0])
			other := slices.Clone(words[0])
			other[k] = 1 - other[k]
			script = append(script, words, [][]int{words[0], other})
		}
		for i, outs := range probe.Told(n, script) {
			if outs[0][0] != 1-i%2 {
				t.Errorf("Same of %v: %v", script[i], outs[0])
			}
		}
	}
}

// A word put together with itself, and bits used twice.
func TestBitsTwice(t *testing.T) {
	holds(t, "Each", one(3), 3, func(b *build.B, x [][]int) []int { return b.Each(api.Xor, x[0], x[0]) }, func(v []uint64) uint64 { return 0 })
	holds(t, "Same", one(3), 1, func(b *build.B, x [][]int) []int { return one(b.Same(x[0], x[0])) }, func(v []uint64) uint64 { return 1 })
	holds(t, "Pick", one(3), 3, func(b *build.B, x [][]int) []int { return b.Pick(x[0], x[0][1:], x[0][0]) }, func(v []uint64) uint64 { return v[0] >> (v[0] & 1) })
	holds(t, "Fold", one(2), 1, func(b *build.B, x [][]int) []int { return one(b.Fold(api.Xor, append(x[0], x[0]...))) }, func(v []uint64) uint64 { return 0 })
}

// P8.4

func TestRegs(t *testing.T) {
	for width := range 4 {
		for _, times := range []int{math.MinInt, -1, 0, 1, 2, 3, 10} {
			b := build.New()
			n := probe.Laid(b, one(width), func(x [][]int) [][]int { return [][]int{b.Regs(x[0], times)} })
			late := max(times, 0)
			if kinds := net.Counts(n); kinds != [8]int{api.Input: width, api.Dff: late * width} {
				t.Errorf("Regs of %d bits, %d: %s", width, times, show(n))
			}
			script := probe.NewRule(uint64(late)).Script(n, 40)
			for i, outs := range probe.Told(n, script) {
				want := make([]int, width)
				if i >= late {
					want = script[i-late][0]
				}
				if !slices.Equal(outs[0], want) {
					t.Errorf("Regs of %d bits, %d, cycle %d: %v, want %v", width, times, i, outs[0], want)
				}
			}
		}
	}
	b := build.New()
	for _, x := range [][]int{nil, {}} {
		if z := b.Regs(x, math.MaxInt); len(z) != 0 || b.Len() != 0 {
			t.Errorf("Regs of no bits: %v", z)
		}
	}
}

// The same calls lay the same.
func TestAgain(t *testing.T) {
	lay := func() api.Net {
		b := build.New()
		return probe.Laid(b, []int{5, 3, 1}, func(x [][]int) [][]int {
			y := b.Each(api.Or, b.Nots(x[0]), b.Word(nat.Of(9), 6))
			return [][]int{b.Pick(y, x[1], x[2][0]), {b.Fold(api.And, y), b.Same(x[0], x[1])}, b.Regs(b.Pad(y, 9), 2)}
		})
	}
	if a, b := lay(), lay(); !net.Same(a, b) || net.Check(a) != api.OK {
		t.Errorf("%s and %s", show(a), show(b))
	}
}

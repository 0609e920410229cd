package adder_test

import (
	"fmt"
	"math"
	"math/big"
	"slices"
	"testing"

	"slipstick/adder"
	"slipstick/api"
	"slipstick/build"
	"slipstick/nat"
	"slipstick/net"
	"slipstick/probe"
)

// P14.1

// The chapter's example: Prefix of 3 and 1, c 0, of 2 bits.
func TestExample(t *testing.T) {
	b := build.New()
	z, c := adder.Prefix(b, b.Word(nat.Of(3), 2), b.Word(nat.Of(1), 2), b.Bit(0))
	b.Out("z", z)
	b.Out("c", one(c))
	told := probe.Told(b.Net(), [][][]int{nil})[0]
	if !slices.Equal(told[0], []int{0, 0}) || !slices.Equal(told[1], one(1)) {
		t.Errorf("%v", told)
	}
}

func TestRippleAndPrefix(t *testing.T) {
	for _, l := range lengths() {
		ins, wides := []int{l[0], l[1], 1}, []int{max(l[0], l[1]), 1}
		holds(t, "Ripple", ins, wides, sum(adder.Ripple), added)
		holds(t, "Prefix", ins, wides, sum(adder.Prefix), added)
	}
}

func TestSelect(t *testing.T) {
	for _, l := range lengths() {
		for _, block := range []int{1, 2, 3, 4, 5, 7, 8, 16, 100, math.MaxInt, 0, -1, math.MinInt} {
			by := func(b *build.B, x, y []int, c int) ([]int, int) { return adder.Select(b, x, y, c, block) }
			holds(t, fmt.Sprint("Select in blocks of ", block), []int{l[0], l[1], 1}, []int{max(l[0], l[1]), 1}, sum(by), added)
		}
	}
}

// Blocks are of so many bits: of one of them what is carried waits for all bits, of more it skips those within.
func TestBlocks(t *testing.T) {
	for _, c := range []struct{ block, same int }{{0, 1}, {-1, 1}, {math.MinInt, 1}, {16, 100}, {16, math.MaxInt}} {
		net1, net2 := selected(16, c.block), selected(16, c.same)
		if !net.Same(net1, net2) {
			t.Errorf("blocks of %d aren't those of %d", c.block, c.same)
		}
	}
	if a, b := heights(t, selected(64, 8)), heights(t, selected(64, 64)); a >= b {
		t.Errorf("heights by blocks of 8: %d, by one block: %d", a, b)
	}
}

// selected is the net of Select, of words of so many bits.
func selected(n, block int) api.Net {
	b := build.New()
	return probe.Laid(b, []int{n, n, 1}, func(x [][]int) [][]int {
		z, c := adder.Select(b, x[0], x[1], x[2][0], block)
		return [][]int{z, one(c)}
	})
}

// The heights of Prefix, of many widths, and of unlike lengths.
func TestHeights(t *testing.T) {
	hold := func(x, y int) {
		t.Helper()
		k := 0
		for 1<<k < max(x, y) {
			k++
		}
		b := build.New()
		// A port has a bit at least.
		n := probe.Laid(b, []int{max(x, 1), max(y, 1), 1}, func(words [][]int) [][]int {
			z, c := adder.Prefix(b, words[0][:x], words[1][:y], words[2][0])
			return [][]int{append(z, c)}
		})
		if most := heights(t, n); most > 2*k+4 {
			t.Errorf("Prefix of %d and %d bits: height %d", x, y, most)
		}
	}
	for n := range 600 {
		hold(n, n)
		hold(n, 1)
		hold(0, n)
		hold(n/2, n)
	}
	hold(1<<12, 1<<12)
	hold(1<<12+1, 1<<12+1)
}

// P14.2

func TestSub(t *testing.T) {
	sub := func(b *build.B, x [][]int) [][]int {
		z, no := adder.Sub(b, x[0], x[1])
		return [][]int{z, one(no)}
	}
	less := func(b *build.B, x [][]int) [][]int { return [][]int{one(adder.Less(b, x[0], x[1]))} }
	for _, l := range lengths() {
		ins := l[:]
		holds(t, "Sub", ins, []int{max(l[0], l[1]), 1}, sub, func(x [][]int) [][]int {
			p, q := number(x[0]), number(x[1])
			no := 0
			if p.Cmp(q) >= 0 {
				no = 1
			}
			return [][]int{word(new(big.Int).Sub(p, q), longer(x)), one(no)}
		})
		holds(t, "Less", ins, one(1), less, func(x [][]int) [][]int {
			if number(x[0]).Cmp(number(x[1])) < 0 {
				return [][]int{one(1)}
			}
			return [][]int{one(0)}
		})
	}
}

// widths are of one word: small ones all, and some greater ones.
func widths() []int {
	return []int{0, 1, 2, 3, 4, 5, 6, 7, 8, 9, 15, 16, 17, 31, 32, 33, 53, 63, 64, 65, 127, 128, 129, 219}
}

func TestMore(t *testing.T) {
	more := func(b *build.B, x [][]int) [][]int {
		z, c := adder.More(b, x[0], x[1][0])
		return [][]int{z, one(c)}
	}
	for _, n := range widths() {
		holds(t, "More", []int{n, 1}, []int{n, 1}, more, func(x [][]int) [][]int {
			v := number(x[0])
			all := word(v.Add(v, number(x[1])), n+1)
			return [][]int{all[:n], all[n:]}
		})
	}
}

func TestSize(t *testing.T) {
	size := func(b *build.B, x [][]int) [][]int { return [][]int{adder.Size(b, x[0], x[1][0])} }
	for _, n := range widths() {
		holds(t, "Size", []int{n, 1}, one(n), size, func(x [][]int) [][]int {
			if x[1][0] == 0 {
				return [][]int{x[0]}
			}
			return [][]int{word(new(big.Int).Sub(power(n), number(x[0])), n)}
		})
	}
}

// P14.3

// All ways to add tell the same, within one net.
func TestAllWaysTellTheSame(t *testing.T) {
	for _, l := range lengths() {
		n := max(l[0], l[1])
		holds(t, "all ways", []int{l[0], l[1], 1}, one(1), func(b *build.B, x [][]int) [][]int {
			same := []int{}
			z, c := adder.Ripple(b, x[0], x[1], x[2][0])
			for _, block := range []int{1, 3, n} {
				y, d := adder.Select(b, x[0], x[1], x[2][0], block)
				same = append(same, b.Same(z, y), b.Same(one(c), one(d)))
			}
			y, d := adder.Prefix(b, x[0], x[1], x[2][0])
			same = append(same, b.Same(z, y), b.Same(one(c), one(d)))
			return [][]int{one(b.Fold(api.And, same))}
		}, func([][]int) [][]int { return [][]int{one(1)} })
	}
}

// Words put together with themselves, and c a bit of theirs.
func TestBitsTwice(t *testing.T) {
	for _, add := range []func(b *build.B, x, y []int, c int) ([]int, int){adder.Ripple, adder.Prefix, func(b *build.B, x, y []int, c int) ([]int, int) { return adder.Select(b, x, y, c, 2) }} {
		holds(t, "twice", one(5), []int{5, 1}, func(b *build.B, x [][]int) [][]int {
			z, c := add(b, x[0], x[0], x[0][4])
			return [][]int{z, one(c)}
		}, probe.Numbers(func(v []uint64) []uint64 {
			all := 2*v[0] + v[0]>>4
			return []uint64{all, all >> 5}
		}, 5, 1))
	}
	holds(t, "Sub of itself", one(5), []int{5, 1}, func(b *build.B, x [][]int) [][]int {
		z, no := adder.Sub(b, x[0], x[0])
		return [][]int{z, one(no)}
	}, func([][]int) [][]int { return [][]int{{0, 0, 0, 0, 0}, one(1)} })
}

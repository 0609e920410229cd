package shift_test

import (
	"fmt"
	"math"
	"math/big"
	"testing"

	"slipstick/build"
	"slipstick/probe"
	"slipstick/shift"
)

// lay is how words are laid of others.
type lay func(b *build.B, words [][]int) [][]int

// one is a word of a bit.
func one(bit int) []int { return []int{bit} }

// holds holds the words that are laid of others, of these widths, against what they must be.
func holds(t *testing.T, call string, ins, wides []int, how lay, want func(words [][]int) [][]int) {
	t.Helper()
	c := probe.Case[*build.B]{New: build.New, Ins: ins, Wides: wides, Lay: how, Want: want}
	if fault := c.Amiss(cycles(ins)); fault != "" {
		t.Errorf("%s: %s", call, fault)
	}
}

// cycles are all values of few bits, else some: words by which others are shifted are small more often than not.
func cycles(ins []int) [][][]int {
	script := probe.Some(ins...)
	if len(ins) < 2 || len(script) != 400 {
		return script
	}
	r := probe.NewRule(uint64(ins[0]))
	for i := range script {
		by := script[i][1]
		if i%4 > 0 {
			copy(by, probe.Bits(uint64(r.Below(ins[0]+2)), len(by)))
		}
	}
	return script
}

// at is a bit of a word, 0 where there is none.
func at(x []int, k *big.Int) int {
	if k.Sign() < 0 || k.Cmp(big.NewInt(int64(len(x)))) >= 0 {
		return 0
	}
	return x[k.Int64()]
}

// number is a word's number, of any size.
func number(word []int) *big.Int {
	v := new(big.Int)
	for k, bit := range word {
		v.SetBit(v, k, uint(bit))
	}
	return v
}

// moved is a word moved by a number of places, bit by bit: up, or, of a number below 0, down.
func moved(x []int, by *big.Int) []int {
	z := make([]int, len(x))
	for k := range z {
		z[k] = at(x, new(big.Int).Sub(big.NewInt(int64(k)), by))
	}
	return z
}

// ones is how many bits of a word are 1.
func ones(x []int) int {
	many := 0
	for _, bit := range x {
		many += bit
	}
	return many
}

// sizes goes through lengths of a word, and of the one that it is shifted by: of no bits, few, and more than enough.
func sizes() [][]int {
	var all [][]int
	for n := range 8 {
		for by := range 6 {
			all = append(all, []int{n, by})
		}
	}
	for _, n := range []int{8, 9, 15, 16, 17, 31, 32, 33, 55, 64, 65, 113, 128, 219} {
		for _, by := range []int{0, 1, 3, 5, 7, 8, 9, 13, 40, 64, 100} {
			all = append(all, []int{n, by})
		}
	}
	return all
}

// P17.1

func TestLeft(t *testing.T) {
	for _, ins := range sizes() {
		holds(t, "Left", ins, one(ins[0]), func(b *build.B, x [][]int) [][]int { return [][]int{shift.Left(b, x[0], x[1])} }, func(x [][]int) [][]int {
			return [][]int{moved(x[0], number(x[1]))}
		})
	}
}

func TestRight(t *testing.T) {
	for _, ins := range sizes() {
		holds(t, "Right", ins, []int{ins[0], 1}, func(b *build.B, x [][]int) [][]int {
			z, lost := shift.Right(b, x[0], x[1])
			return [][]int{z, one(lost)}
		}, func(x [][]int) [][]int {
			by := number(x[1])
			z := moved(x[0], by.Neg(by))
			return [][]int{z, one(min(ones(x[0])-ones(z), 1))}
		})
	}
}

// Each value of small words by each value of small words, as numbers.
func TestAsNumbers(t *testing.T) {
	for n := range 7 {
		for by := range 5 {
			mask := uint64(1)<<n - 1
			holds(t, "both ways", []int{n, by}, []int{n, n, 1}, func(b *build.B, x [][]int) [][]int {
				z, lost := shift.Right(b, x[0], x[1])
				return [][]int{shift.Left(b, x[0], x[1]), z, one(lost)}
			}, probe.Numbers(func(v []uint64) []uint64 {
				lost := uint64(0)
				if v[0]>>v[1]<<v[1] != v[0] {
					lost = 1
				}
				return []uint64{v[0] << v[1] & mask, v[0] >> v[1], lost}
			}, n, n, 1))
		}
	}
}

// P17.2

func TestWide(t *testing.T) {
	for n := -3; n < 3000; n++ {
		k := 0
		for n > 0 && 1<<k <= n {
			k++
		}
		if got := shift.Wide(n); got != k {
			t.Errorf("Wide of %d: %d, want %d", n, got, k)
		}
	}
	for _, c := range []struct{ n, want int }{{math.MinInt, 0}, {math.MaxInt, 63}, {1<<62 - 1, 62}, {1 << 62, 63}, {1<<32 - 1, 32}, {1 << 32, 33}} {
		if got := shift.Wide(c.n); got != c.want {
			t.Errorf("Wide of %d: %d, want %d", c.n, got, c.want)
		}
	}
}

// leads is how many bits 0 lead.
func leads(x []int) int {
	many := 0
	for many < len(x) && x[len(x)-1-many] == 0 {
		many++
	}
	return many
}

// widths are of one word: small ones all, and some greater ones.
func widths() []int {
	return []int{0, 1, 2, 3, 4, 5, 6, 7, 8, 9, 10, 12, 15, 16, 17, 31, 32, 33, 53, 63, 64, 65, 127, 128, 129, 219}
}

// each is words whose highest bit 1 stands at each place: alone, and with others below it; and more of no rule.
func each(n int) [][][]int {
	r := probe.NewRule(uint64(n))
	script := probe.Some(n)
	for k := range n {
		alone, below := make([]int, n), make([]int, n)
		alone[k], below[k] = 1, 1
		for low := range k {
			below[low] = r.Below(2)
		}
		script = append(script, [][]int{alone}, [][]int{below})
	}
	return script
}

func TestLeadAndNorm(t *testing.T) {
	for _, n := range widths() {
		wide := shift.Wide(n)
		c := probe.Case[*build.B]{New: build.New, Ins: one(n), Wides: []int{wide, n, wide}, Lay: func(b *build.B, x [][]int) [][]int {
			z, lead := shift.Norm(b, x[0])
			return [][]int{shift.Lead(b, x[0]), z, lead}
		}, Want: func(x [][]int) [][]int {
			lead := probe.Bits(uint64(leads(x[0])), wide)
			return [][]int{lead, moved(x[0], big.NewInt(int64(leads(x[0])))), lead}
		}}
		if fault := c.Amiss(each(n)); fault != "" {
			t.Error(fault)
		}
	}
}

// The chapter's examples.
func TestExamples(t *testing.T) {
	b := build.New()
	n := probe.Laid(b, one(4), func(x [][]int) [][]int { return [][]int{shift.Lead(b, x[0])} })
	for v, want := range map[uint64]uint64{2: 2, 0: 4} {
		told := probe.Tells(n, [][][]int{{probe.Bits(v, 4)}})[0]
		if got := probe.Number(told[0]); got != want || len(told[0]) != 3 {
			t.Errorf("Lead of %04b: %v", v, told)
		}
	}
}

// P17.3

// What is normed has its highest bit 1, but of 0; shifted back by as many it is the word again, and nothing is lost.
func TestNormed(t *testing.T) {
	for _, n := range widths()[1:] {
		holds(t, fmt.Sprint("normed, of ", n), one(n), []int{1, n, 1}, func(b *build.B, x [][]int) [][]int {
			z, lead := shift.Norm(b, x[0])
			back, lost := shift.Right(b, z, lead)
			return [][]int{one(z[n-1]), back, one(lost)}
		}, func(x [][]int) [][]int { return [][]int{one(min(ones(x[0]), 1)), x[0], one(0)} })
	}
}

// A word shifted by itself, and by its own bits.
func TestBitsTwice(t *testing.T) {
	holds(t, "twice", one(6), []int{6, 6, 1}, func(b *build.B, x [][]int) [][]int {
		z, lost := shift.Right(b, x[0], x[0][:2])
		return [][]int{shift.Left(b, x[0], x[0]), z, one(lost)}
	}, probe.Numbers(func(v []uint64) []uint64 {
		by := v[0] & 3
		lost := uint64(0)
		if v[0]>>by<<by != v[0] {
			lost = 1
		}
		return []uint64{v[0] << v[0] & 63, v[0] >> by, lost}
	}, 6, 6, 1))
}

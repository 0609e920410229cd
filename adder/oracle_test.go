package adder_test

import (
	"math/big"
	"testing"

	"slipstick/api"
	"slipstick/build"
	"slipstick/net"
	"slipstick/probe"
)

// lay is how words are laid of others.
type lay func(b *build.B, words [][]int) [][]int

// one is a word of a bit.
func one(bit int) []int { return []int{bit} }

// sum lays a sum, and what is carried, of two words and a word of a bit.
func sum(add func(b *build.B, x, y []int, c int) ([]int, int)) lay {
	return func(b *build.B, words [][]int) [][]int {
		z, c := add(b, words[0], words[1], words[2][0])
		return [][]int{z, one(c)}
	}
}

// holds holds the words that are laid of others, of these widths, against what they must be.
func holds(t *testing.T, call string, ins, wides []int, how lay, want func(words [][]int) [][]int) {
	t.Helper()
	c := probe.Case[*build.B]{New: build.New, Ins: ins, Wides: wides, Lay: how, Want: want}
	if fault := c.Amiss(probe.Some(ins...)); fault != "" {
		t.Errorf("%s: %s", call, fault)
	}
}

// number is a word's number, of any size.
func number(word []int) *big.Int {
	v := new(big.Int)
	for k, bit := range word {
		v.SetBit(v, k, uint(bit))
	}
	return v
}

// power is 2^n.
func power(n int) *big.Int { return new(big.Int).Lsh(big.NewInt(1), uint(n)) }

// word is the lowest bits of a number.
func word(v *big.Int, width int) []int {
	v = new(big.Int).Mod(v, power(width))
	w := make([]int, width)
	for k := range w {
		w[k] = int(v.Bit(k))
	}
	return w
}

// longer is how many bits the longer of two words has.
func longer(words [][]int) int { return max(len(words[0]), len(words[1])) }

// added is what each way to add must tell.
func added(words [][]int) [][]int {
	v := number(words[0])
	v.Add(v, number(words[1])).Add(v, number(words[2]))
	all := word(v, longer(words)+1)
	return [][]int{all[:longer(words)], all[longer(words):]}
}

// lengths goes through lengths of two words: small ones all, and some greater ones.
func lengths() [][2]int {
	var all [][2]int
	for x := range 5 {
		for y := range 5 {
			all = append(all, [2]int{x, y})
		}
	}
	return append(all, [][2]int{{5, 5}, {7, 3}, {8, 8}, {1, 9}, {0, 12}, {15, 15}, {16, 16}, {17, 17}, {31, 20}, {32, 32}, {33, 33}, {64, 64}, {40, 65}, {100, 100}, {130, 129}, {219, 219}}...)
}

// heights are the greatest levels of the words that go out of a net.
func heights(t *testing.T, n api.Net) int {
	t.Helper()
	levels, e := net.Levels(n)
	if e != api.OK {
		t.Fatalf("Levels: %d", e)
	}
	most := 0
	for _, p := range n.Outs {
		for _, place := range p.Bits {
			most = max(most, levels[place])
		}
	}
	return most
}

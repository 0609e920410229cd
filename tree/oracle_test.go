package tree_test

import (
	"math/big"
	"testing"

	"slipstick/api"
	"slipstick/build"
	"slipstick/net"
	"slipstick/probe"
)

// lay is how words are laid of others.
type lay func(b *build.B, words [][]int) [][]int

// number is a word's number, of any size.
func number(word []int) *big.Int {
	v := new(big.Int)
	for k, bit := range word {
		v.SetBit(v, k, uint(bit))
	}
	return v
}

// total is the number of all words together, or, where bits isn't below 0, its lowest bits.
func total(words [][]int, bits int) *big.Int {
	v := new(big.Int)
	for _, word := range words {
		v.Add(v, number(word))
	}
	if bits >= 0 {
		v.Mod(v, new(big.Int).Lsh(big.NewInt(1), uint(bits)))
	}
	return v
}

// holds holds the numbers of the words that are laid of others, together, against those of these, whole or, where bits isn't below 0, modulo 2^bits, and the heights against the most that is allowed.
func holds(t *testing.T, call string, ins, wides []int, bits, height int, how lay) {
	t.Helper()
	c := probe.Case[*build.B]{New: build.New, Ins: ins, Wides: wides, Lay: how}
	n, fault := c.Net()
	if again, _ := c.Net(); fault != "" || !net.Same(n, again) {
		t.Errorf("%s of %v: %s", call, ins, fault)
		return
	}
	script := probe.Some(ins...)
	for i, told := range probe.Tells(n, script) {
		if got, want := total(told, bits), total(script[i], bits); got.Cmp(want) != 0 {
			t.Errorf("%s of %v, %v: %v is %v, not %v", call, ins, script[i], told, got, want)
			return
		}
	}
	if most := highest(t, n); most > height {
		t.Errorf("%s of %v: height %d, not %d", call, ins, most, height)
	}
}

// one is one port for all: net knows but few, and none of no bits.
func one(name string, ports []api.Port) []api.Port {
	var bits []int
	for _, p := range ports {
		bits = append(bits, p.Bits...)
	}
	if len(bits) == 0 {
		return nil
	}
	return []api.Port{probe.Port(name, bits...)}
}

// highest is the greatest level of the bits that go out.
func highest(t *testing.T, n api.Net) int {
	t.Helper()
	levels, e := net.Levels(api.Net{Nodes: n.Nodes, Ins: one("x", n.Ins), Outs: one("z", n.Outs)})
	if e != api.OK {
		t.Fatalf("Levels: %d", e)
	}
	most := 0
	for _, p := range n.Outs {
		for _, place := range p.Bits {
			most = max(most, levels[place])
		}
	}
	return most
}

// widths goes through all lists of so many widths, each up to one less than a number.
func widths(many, end int) [][]int {
	all := [][]int{nil}
	for range many {
		var more [][]int
		for _, l := range all {
			for width := range end {
				more = append(more, append(append([]int(nil), l...), width))
			}
		}
		all = more
	}
	return all
}

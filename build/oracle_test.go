package build_test

import (
	"slices"
	"testing"

	"slipstick/api"
	"slipstick/build"
	"slipstick/net"
	"slipstick/probe"
)

var show = probe.Show

// laid is the net of a word that is laid of words of these widths. That nothing but a word of so many bits is laid, behind what was there, no Inputs and no Dffs, is held against the net.
func laid(t *testing.T, widths []int, wide int, lay func(b *build.B, words [][]int) []int) api.Net {
	t.Helper()
	b := build.New()
	return probe.Laid(b, widths, func(words [][]int) [][]int {
		before := b.Net()
		copied := [][]int{}
		for _, word := range words {
			copied = append(copied, slices.Clone(word))
		}
		z := lay(b, words)
		after := b.Net()
		kinds := net.Counts(api.Net{Nodes: after.Nodes[len(before.Nodes):]})
		if !slices.Equal(after.Nodes[:len(before.Nodes)], before.Nodes) || kinds[api.Input] > 0 || kinds[api.Dff] > 0 {
			t.Errorf("of %v: laid %v behind %v", widths, show(after), show(before))
		}
		if !slices.EqualFunc(words, copied, func(a, b []int) bool { return slices.Equal(a, b) }) {
			t.Errorf("of %v: %v are %v", widths, copied, words)
		}
		if len(z) != wide || len(after.Ins) != len(before.Ins) || len(after.Outs) != 0 {
			t.Errorf("of %v: %d bits, want %d; net %s", widths, len(z), wide, show(after))
		}
		return [][]int{z}
	})
}

// holds holds the word that is laid of words of these widths, for all values, cycle by cycle, against its document's number.
func holds(t *testing.T, call string, widths []int, wide int, lay func(b *build.B, words [][]int) []int, want func(v []uint64) uint64) {
	t.Helper()
	n := laid(t, widths, wide, lay)
	script := probe.Every(widths...)
	for i, outs := range probe.Told(n, script) {
		var v []uint64
		for _, word := range script[i] {
			v = append(v, probe.Number(word))
		}
		if got := probe.Number(outs[0]); got != want(v) {
			t.Errorf("%s of %v bits, %v: %d, want %d", call, widths, v, got, want(v))
			return
		}
	}
}

// pairs goes through all lengths of two words, up to so many bits.
func pairs(most int) [][]int {
	var all [][]int
	for x := range most + 1 {
		for y := range most + 1 {
			all = append(all, []int{x, y})
		}
	}
	return all
}

// ones is the number of so many bits 1.
func ones(width int) uint64 { return 1<<width - 1 }

// kinds are the kinds that Each and Fold speak of, and others.
func kinds() []int {
	return []int{api.And, api.Or, api.Xor, api.Const, api.Input, api.Not, api.Mux, api.Dff, -1, 8, 1 << 40}
}

// both is what a kind of gate tells of two bits, or of two words, bit by bit.
func both(kind int, x, y uint64) uint64 {
	switch kind {
	case api.And:
		return x & y
	case api.Or:
		return x | y
	}
	return x ^ y
}

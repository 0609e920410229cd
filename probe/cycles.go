package probe

import (
	"slices"
	"strconv"
)

// Cycles makes of numbers, of no more than 64 bits, a cycle of words of these widths.
func Cycles(numbers [][]uint64, widths ...int) [][][]int {
	var script [][][]int
	for _, l := range numbers {
		var words [][]int
		for i, v := range l {
			words = append(words, Bits(v, widths[i]))
		}
		script = append(script, words)
	}
	return script
}

// Told tells what goes out, as numbers, where numbers come in: all of no more than 64 bits.
func (c Case[B]) Told(numbers [][]uint64) [][]uint64 {
	n, _ := c.Net()
	var all [][]uint64
	for _, words := range Tells(n, Cycles(numbers, c.Ins...)) {
		var l []uint64
		for _, word := range words {
			l = append(l, Number(word))
		}
		all = append(all, l)
	}
	return all
}

// AmissOf tells what Amiss does, where numbers come in.
func (c Case[B]) AmissOf(numbers [][]uint64) string {
	return c.Amiss(Cycles(numbers, c.Ins...))
}

// Unlike tells where other numbers go out than those that are wanted, if anywhere.
func (c Case[B]) Unlike(numbers, want [][]uint64) string {
	for i, told := range c.Told(numbers) {
		if !slices.Equal(told, want[i]) {
			return hexes(numbers[i]) + ":" + hexes(told) + ", not" + hexes(want[i])
		}
	}
	return ""
}

// hexes are some numbers, to be read.
func hexes(all []uint64) string {
	s := ""
	for _, v := range all {
		s += " " + strconv.FormatUint(v, 16)
	}
	return s
}

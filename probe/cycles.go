package probe

// Cycles makes of numbers, of no more than 64 bits, a cycle of words of these widths.
func Cycles(numbers [][]uint64, widths ...int) [][][]int {
	var script [][][]int
	for _, l := range numbers {
		var words [][]int
		for i, v := range l {
			words = append(words, Bits(v, widths[i]))
		}
		script = append(script, words)
	}
	return script
}

// Told tells what goes out, as numbers, where numbers come in: all of no more than 64 bits.
func (c Case[B]) Told(numbers [][]uint64) [][]uint64 {
	n, _ := c.Net()
	var all [][]uint64
	for _, words := range Tells(n, Cycles(numbers, c.Ins...)) {
		var l []uint64
		for _, word := range words {
			l = append(l, Number(word))
		}
		all = append(all, l)
	}
	return all
}

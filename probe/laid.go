package probe

import (
	"strconv"

	"slipstick/api"
)

// Layer is to what a net is laid.
type Layer interface {
	In(name string, width int) []int
	Out(name string, x []int)
	Net() api.Net
}

// Laid is a net of words that come in, of these widths, and of the words that are laid of them, which go out.
func Laid(b Layer, widths []int, lay func(words [][]int) [][]int) api.Net {
	var words [][]int
	for i, width := range widths {
		words = append(words, b.In("x"+strconv.Itoa(i), width))
	}
	for i, word := range lay(words) {
		b.Out("z"+strconv.Itoa(i), word)
	}
	return b.Net()
}

// Every is a cycle for each choice of values of words, of these widths.
func Every(widths ...int) [][][]int {
	bits := 0
	for _, width := range widths {
		bits += width
	}
	var script [][][]int
	for v := range uint64(1) << bits {
		var words [][]int
		all := Bits(v, bits)
		for _, width := range widths {
			words = append(words, all[:width])
			all = all[width:]
		}
		script = append(script, words)
	}
	return script
}

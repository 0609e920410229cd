package probe

import (
	"slices"
	"strconv"

	"slipstick/api"
)

// Layer is to what a net is laid.
type Layer interface {
	In(name string, width int) []int
	Out(name string, x []int)
	Net() api.Net
}

// Laid is a net of words that come in, of these widths, and of the words that are laid of them, which go out.
func Laid(b Layer, widths []int, lay func(words [][]int) [][]int) api.Net {
	var words [][]int
	for i, width := range widths {
		words = append(words, b.In("x"+strconv.Itoa(i), width))
	}
	for i, word := range lay(words) {
		b.Out("z"+strconv.Itoa(i), word)
	}
	return b.Net()
}

// Every is a cycle for each choice of values of words, of these widths.
func Every(widths ...int) [][][]int {
	bits := 0
	for _, width := range widths {
		bits += width
	}
	var script [][][]int
	for v := range uint64(1) << bits {
		var words [][]int
		all := Bits(v, bits)
		for _, width := range widths {
			words = append(words, all[:width])
			all = all[width:]
		}
		script = append(script, words)
	}
	return script
}

// mostEvery is up to how many bits Some goes through all values.
const mostEvery = 10

// edge is a word of bits that are all the same, or all but one, or of no rule.
func (r *Rule) edge(width int) []int {
	word := slices.Repeat([]int{r.Below(2)}, width)
	if width == 0 {
		return word
	}
	switch r.Below(3) {
	case 0:
		k := r.Below(width)
		word[k] = 1 - word[k]
	case 1:
		for k := range word {
			word[k] = r.Below(2)
		}
	}
	return word
}

// Some is a cycle for each choice of values of words, of these widths, where these are few; else 400 of edges and of no rule.
func Some(widths ...int) [][][]int {
	bits := 0
	for _, width := range widths {
		bits += width
	}
	if bits <= mostEvery {
		return Every(widths...)
	}
	r := NewRule(uint64(bits))
	script := make([][][]int, 400)
	for i := range script {
		for _, width := range widths {
			script[i] = append(script[i], r.edge(width))
		}
	}
	return script
}

package probe

import (
	"slices"
	"strconv"

	"slipstick/api"
)

// Case is words that are laid of others, by a builder: of which widths those are that come in, and those that are told, how they are laid, and what they must be.
type Case[B Layer] struct {
	New        func() B
	Ins, Wides []int
	Lay        func(b B, words [][]int) [][]int
	Want       func(words [][]int) [][]int
}

// sameWords tells whether words are the same.
func sameWords(a, b [][]int) bool {
	return slices.EqualFunc(a, b, slices.Equal[[]int])
}

// cloneWords copies words, each with its bits.
func cloneWords(words [][]int) [][]int {
	var copies [][]int
	for _, word := range words {
		copies = append(copies, slices.Clone(word))
	}
	return copies
}

// share tells whether some of these words share memory. They are changed.
func share(words [][]int) bool {
	for i, word := range words {
		for k := range word {
			word[k] = -1 - i
		}
	}
	for i, word := range words {
		for _, place := range word {
			if place != -1-i {
				return true
			}
		}
	}
	return false
}

// text is words, to be read: the highest bit first.
func text(words [][]int) string {
	s := ""
	for i, word := range words {
		if i > 0 {
			s += " "
		}
		if len(word) == 0 {
			s += "-"
		}
		for _, bit := range slices.Backward(word) {
			s += strconv.Itoa(bit)
		}
	}
	return s
}

// numbers are some numbers, to be read.
func numbers(all []int) string {
	s := ""
	for _, v := range all {
		s += " " + strconv.Itoa(v)
	}
	return s
}

// wideAs tells whether words have these widths.
func wideAs(words [][]int, wides []int) bool {
	return slices.EqualFunc(words, wides, func(word []int, wide int) bool { return len(word) == wide })
}

// laidAmiss tells what is amiss of what was laid behind a net: nothing may be laid but nodes that are no Inputs and no Dffs, each behind those it uses.
func laidAmiss(before, after api.Net) string {
	many := len(before.Nodes)
	if len(after.Nodes) < many || !slices.Equal(before.Nodes, after.Nodes[:many]) || !samePorts(before.Ins, after.Ins) || !samePorts(before.Outs, after.Outs) {
		return "what was laid ahead was changed"
	}
	for place, x := range after.Nodes[many:] {
		if x.Kind == api.Input || x.Kind == api.Dff {
			return "an Input or a Dff was laid"
		}
		if x.Kind != api.Const && max(x.A, x.B, x.C) >= many+place {
			return "a node uses what stands behind it"
		}
	}
	return ""
}

// Net is the net of the words that are laid, and what is amiss of it, if anything is.
func (c Case[B]) Net() (api.Net, string) {
	b := c.New()
	fault := ""
	n := Laid(b, c.Ins, func(words [][]int) [][]int {
		before, given := b.Net(), cloneWords(words)
		told := c.Lay(b, words)
		out := cloneWords(told)
		fault = laidAmiss(before, b.Net())
		switch {
		case fault != "":
		case !wideAs(told, c.Wides):
			fault = "widths of" + numbers(c.Wides) + ": " + text(told)
		case !sameWords(words, given):
			fault = "an argument was changed"
		case share(slices.Concat(words, told)):
			fault = "words share memory"
		}
		return out
	})
	return n, fault
}

// Amiss tells what is amiss of the words that are laid, of each choice of values, if anything is; that they are laid alike again, too.
func (c Case[B]) Amiss(script [][][]int) string {
	of := "of widths" + numbers(c.Ins) + ": "
	n, fault := c.Net()
	again, _ := c.Net()
	if fault != "" {
		return of + fault
	}
	if !Same(n, again) {
		return of + "laid again it is another net"
	}
	for i, told := range Tells(n, script) {
		if want := c.Want(script[i]); !sameWords(told, want) {
			return of + text(script[i]) + ": " + text(told) + ", not " + text(want)
		}
	}
	return ""
}

// Numbers makes of what must be told as numbers, of no more than 64 bits, what must be told as words of these widths.
func Numbers(want func(v []uint64) []uint64, wides ...int) func(words [][]int) [][]int {
	return func(words [][]int) [][]int {
		var v []uint64
		for _, word := range words {
			v = append(v, Number(word))
		}
		var told [][]int
		for i, w := range want(v) {
			told = append(told, Bits(w, wides[i]))
		}
		return told
	}
}

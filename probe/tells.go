package probe

import "slipstick/api"

// together is how many cycles are told at once: one a bit of a number.
const together = 64

// gate is what a node tells in many cycles at once.
func gate(x api.Node, values []uint64) uint64 {
	switch x.Kind {
	case api.Not:
		return ^values[x.A]
	case api.And:
		return values[x.A] & values[x.B]
	case api.Or:
		return values[x.A] | values[x.B]
	case api.Xor:
		return values[x.A] ^ values[x.B]
	case api.Mux:
		return values[x.A]&^values[x.C] | values[x.B]&values[x.C]
	}
	return -uint64(x.A)
}

// tell tells up to 64 cycles.
func tell(n api.Net, values []uint64, script [][][]int) [][][]int {
	for i, p := range n.Ins {
		for k, place := range p.Bits {
			values[place] = 0
			for cycle, words := range script {
				values[place] |= uint64(words[i][k]) << cycle
			}
		}
	}
	for place, x := range n.Nodes {
		if x.Kind != api.Input {
			values[place] = gate(x, values)
		}
	}
	told := make([][][]int, len(script))
	for cycle := range told {
		for _, p := range n.Outs {
			word := make([]int, len(p.Bits))
			for k, place := range p.Bits {
				word[k] = int(values[place] >> cycle & 1)
			}
			told[cycle] = append(told[cycle], word)
		}
	}
	return told
}

// Tells tells what Told does, of a net without Dffs of which each node stands behind those it uses: of many cycles at once.
func Tells(n api.Net, script [][][]int) [][][]int {
	values := make([]uint64, len(n.Nodes))
	var told [][][]int
	for len(script) > 0 {
		many := min(together, len(script))
		told = append(told, tell(n, values, script[:many])...)
		script = script[many:]
	}
	return told
}

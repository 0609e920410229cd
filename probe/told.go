package probe

import "slipstick/api"

// Bits is a number's word, of so many bits.
func Bits(v uint64, width int) []int {
	bits := make([]int, width)
	for k := range bits {
		bits[k] = int(v & 1)
		v >>= 1
	}
	return bits
}

// Number is a word's number, of no more than 64 bits.
func Number(bits []int) uint64 {
	var v uint64
	for k := len(bits) - 1; k >= 0; k-- {
		v = 2*v + uint64(bits[k])
	}
	return v
}

// cycle is a cycle of a net: what is known of its nodes' values, -1 where nothing is.
type cycle struct {
	nodes []api.Node
	known []int
}

// value tells a node's value, by asking for those it uses.
func (c cycle) value(place int) int {
	v := c.known[place]
	if v >= 0 {
		return v
	}
	x := c.nodes[place]
	switch x.Kind {
	case api.Const:
		v = x.A
	case api.Not:
		v = 1 - c.value(x.A)
	case api.And:
		v = c.value(x.A) * c.value(x.B)
	case api.Or:
		v = max(c.value(x.A), c.value(x.B))
	case api.Xor:
		v = (c.value(x.A) + c.value(x.B)) % 2
	case api.Mux:
		v = [2]int{c.value(x.A), c.value(x.B)}[c.value(x.C)]
	}
	c.known[place] = v
	return v
}

// begin tells a cycle of which the state and what comes in are known.
func begin(n api.Net, state map[int]int, ins [][]int) cycle {
	c := cycle{nodes: n.Nodes, known: make([]int, len(n.Nodes))}
	for place := range c.known {
		c.known[place] = -1
	}
	for place, v := range state {
		c.known[place] = v
	}
	for i, p := range n.Ins {
		for k, place := range p.Bits {
			c.known[place] = ins[i][k]
		}
	}
	return c
}

// Told tells what goes out of a net that may be, in each cycle of a script, a word a port.
func Told(n api.Net, script [][][]int) [][][]int {
	state := map[int]int{}
	for place, x := range n.Nodes {
		if x.Kind == api.Dff {
			state[place] = x.B
		}
	}
	var told [][][]int
	for _, ins := range script {
		c := begin(n, state, ins)
		var outs [][]int
		for _, p := range n.Outs {
			var word []int
			for _, place := range p.Bits {
				word = append(word, c.value(place))
			}
			outs = append(outs, word)
		}
		told = append(told, outs)
		next := map[int]int{}
		for place := range state {
			next[place] = c.value(n.Nodes[place].A)
		}
		state = next
	}
	return told
}

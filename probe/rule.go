package probe

import (
	"strconv"

	"slipstick/api"
)

// Rule tells numbers that look like none of a rule, and are the same each time.
type Rule struct{ state uint64 }

// NewRule is a rule that begins with a number.
func NewRule(first uint64) *Rule {
	return &Rule{state: first + 1}
}

// Next is a number of 64 bits.
func (r *Rule) Next() uint64 {
	r.state += 0x9e3779b97f4a7c15
	v := r.state
	v = (v ^ v>>30) * 0xbf58476d1ce4e5b9
	v = (v ^ v>>27) * 0x94d049bb133111eb
	return v ^ v>>31
}

// Below is a number from 0 on, below another.
func (r *Rule) Below(end int) int {
	return int(r.Next() % uint64(end))
}

// Shuffled is the numbers from 0 on, so many, in an order of no rule.
func (r *Rule) Shuffled(many int) []int {
	all := make([]int, many)
	for i := range all {
		j := r.Below(i + 1)
		all[i], all[j] = all[j], i
	}
	return all
}

// gate is a node of a kind that is none of Input and Dff, and uses some of these.
func (r *Rule) gate(uses []int) api.Node {
	pick := func() int { return uses[r.Below(len(uses))] }
	switch r.Below(12) {
	case 0:
		return One(r.Below(2))
	case 1, 2:
		return Not(pick())
	case 3, 4, 5:
		return And(pick(), pick())
	case 6, 7:
		return Or(pick(), pick())
	case 8, 9:
		return Xor(pick(), pick())
	}
	return Mux(pick(), pick(), pick())
}

// ports are the bits, in turn, by ports of one bit and more.
func (r *Rule) ports(name string, bits []int) []api.Port {
	var ports []api.Port
	for len(bits) > 0 {
		width := 1 + r.Below(min(len(bits), 6))
		if len(ports) == 20 {
			width = len(bits)
		}
		ports = append(ports, Port(name+strconv.Itoa(len(ports)), append([]int(nil), bits[:width]...)...))
		bits = bits[width:]
	}
	return ports
}

// Net is a net that may be, of so many Inputs, Dffs and other nodes, that stand in no order. Of the Dffs and the others, some go out.
func (r *Rule) Net(inputs, regs, gates int) api.Net {
	many := inputs + regs + gates
	places := r.Shuffled(many)
	n := api.Net{Nodes: make([]api.Node, many)}
	for i, place := range places {
		switch {
		case i < inputs:
			n.Nodes[place] = Input()
		case i < inputs+regs:
			n.Nodes[place] = Dff(r.Below(many), r.Below(2))
		case i == 0:
			n.Nodes[place] = One(1)
		default:
			n.Nodes[place] = r.gate(places[:i])
		}
	}
	n.Ins = r.ports("in", places[:inputs])
	var goes []int
	for range 1 + r.Below(20) {
		goes = append(goes, r.Below(many))
	}
	n.Outs = r.ports("out", goes)
	return n
}

// Script is so many cycles for a net.
func (r *Rule) Script(n api.Net, cycles int) [][][]int {
	script := make([][][]int, cycles)
	for i := range script {
		for _, p := range n.Ins {
			var word []int
			for range p.Bits {
				word = append(word, r.Below(2))
			}
			script[i] = append(script[i], word)
		}
	}
	return script
}

package probe

import (
	"slices"
	"strconv"

	"slipstick/api"
)

// samePorts tells whether ports are the same.
func samePorts(a, b []api.Port) bool {
	return slices.EqualFunc(a, b, func(p, q api.Port) bool { return p.Name == q.Name && slices.Equal(p.Bits, q.Bits) })
}

// Same tells whether nets are the same.
func Same(a, b api.Net) bool {
	return slices.Equal(a.Nodes, b.Nodes) && samePorts(a.Ins, b.Ins) && samePorts(a.Outs, b.Outs)
}

// Scribble changes all of a net.
func Scribble(n api.Net) {
	for place := range n.Nodes {
		n.Nodes[place] = One(1)
	}
	for _, ports := range [][]api.Port{n.Ins, n.Outs} {
		for i, p := range ports {
			for k := range p.Bits {
				p.Bits[k] = -1
			}
			ports[i] = Port("other", 1)
		}
	}
}

// listsApart tells whether no two lists of a net's bits share memory. The net is changed.
func listsApart(n api.Net) bool {
	all := slices.Concat(n.Ins, n.Outs)
	for i, p := range all {
		for k := range p.Bits {
			p.Bits[k] = i
		}
	}
	for i, p := range all {
		for _, place := range p.Bits {
			if place != i {
				return false
			}
		}
	}
	return true
}

// Apart tells whether what makes a net of another one leaves that one as it was, shares nothing with it, and makes the same again.
func Apart(n api.Net, remake func(n api.Net) api.Net) bool {
	given := Clone(n)
	made := remake(given)
	kept := Clone(made)
	if !Same(given, n) {
		return false
	}
	Scribble(given)
	return Same(made, kept) && listsApart(made) && Same(remake(Clone(n)), kept)
}

// sameShape tells whether ports have the same names, and as many bits.
func sameShape(a, b []api.Port) bool {
	return slices.EqualFunc(a, b, func(p, q api.Port) bool { return p.Name == q.Name && len(p.Bits) == len(q.Bits) })
}

// Differs tells in what a net differs from one that it was made of, and shall tell the same as, by other nodes, and no more of them; nothing, if in nothing.
func Differs(n, m api.Net, script [][][]int) string {
	if len(m.Nodes) > len(n.Nodes) {
		return "more nodes"
	}
	if !sameShape(n.Ins, m.Ins) || !sameShape(n.Outs, m.Outs) {
		return "other ports"
	}
	was := Told(n, script)
	for i, told := range Told(m, script) {
		if !sameWords(told, was[i]) {
			return "cycle" + numbers([]int{i}) + ": " + text(told) + ", not " + text(was[i])
		}
	}
	return ""
}

// Uses are pointers to the places that a node uses.
func Uses(x *api.Node) []*int {
	switch x.Kind {
	case api.Not, api.Dff:
		return []*int{&x.A}
	case api.And, api.Or, api.Xor:
		return []*int{&x.A, &x.B}
	case api.Mux:
		return []*int{&x.A, &x.B, &x.C}
	}
	return nil
}

// Needed tells of each node whether it goes out, or something hangs on it that does, over Dffs too.
func Needed(n api.Net) []bool {
	needed := make([]bool, len(n.Nodes))
	var waits []int
	for _, p := range n.Outs {
		waits = append(waits, p.Bits...)
	}
	for len(waits) > 0 {
		place := waits[len(waits)-1]
		waits = waits[:len(waits)-1]
		if needed[place] {
			continue
		}
		needed[place] = true
		x := n.Nodes[place]
		for _, use := range Uses(&x) {
			waits = append(waits, *use)
		}
	}
	return needed
}

// mostShown is how many nodes, and ports, of a net are shown.
const mostShown = 30

// shownPorts are the first of some ports, to be read.
func shownPorts(ports []api.Port) string {
	s := ""
	for _, p := range ports[:min(len(ports), mostShown)] {
		s += " " + p.Name + " [" + numbers(p.Bits[:min(len(p.Bits), mostShown)]) + " ]"
	}
	return s
}

// Show is a net, to be read: how many nodes there are, and the first of all its parts.
func Show(n api.Net) string {
	s := strconv.Itoa(len(n.Nodes)) + " nodes"
	for _, x := range n.Nodes[:min(len(n.Nodes), mostShown)] {
		s += " {" + numbers([]int{x.Kind, x.A, x.B, x.C}) + " }"
	}
	return s + ", in" + shownPorts(n.Ins) + ", out" + shownPorts(n.Outs)
}

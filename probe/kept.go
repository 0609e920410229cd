package probe

import (
	"slices"

	"slipstick/api"
)

// samePorts tells whether ports are the same.
func samePorts(a, b []api.Port) bool {
	return slices.EqualFunc(a, b, func(p, q api.Port) bool { return p.Name == q.Name && slices.Equal(p.Bits, q.Bits) })
}

// Same tells whether nets are the same.
func Same(a, b api.Net) bool {
	return slices.Equal(a.Nodes, b.Nodes) && samePorts(a.Ins, b.Ins) && samePorts(a.Outs, b.Outs)
}

// Scribble changes all of a net.
func Scribble(n api.Net) {
	for place := range n.Nodes {
		n.Nodes[place] = One(1)
	}
	for _, ports := range [][]api.Port{n.Ins, n.Outs} {
		for i, p := range ports {
			for k := range p.Bits {
				p.Bits[k] = -1
			}
			ports[i] = Port("other", 1)
		}
	}
}

// listsApart tells whether no two lists of a net's bits share memory. The net is changed.
func listsApart(n api.Net) bool {
	all := slices.Concat(n.Ins, n.Outs)
	for i, p := range all {
		for k := range p.Bits {
			p.Bits[k] = i
		}
	}
	for i, p := range all {
		for _, place := range p.Bits {
			if place != i {
				return false
			}
		}
	}
	return true
}

// Apart tells whether what makes a net of another one leaves that one as it was, shares nothing with it, and makes the same again.
func Apart(n api.Net, remake func(n api.Net) api.Net) bool {
	given := Clone(n)
	made := remake(given)
	kept := Clone(made)
	if !Same(given, n) {
		return false
	}
	Scribble(given)
	return Same(made, kept) && listsApart(made) && Same(remake(Clone(n)), kept)
}

// Alike tells whether the same goes out of two nets, cycle by cycle.
func Alike(a, b api.Net, script [][][]int) bool {
	return slices.EqualFunc(Told(a, script), Told(b, script), func(p, q [][]int) bool {
		return slices.EqualFunc(p, q, slices.Equal[[]int])
	})
}

// Needed tells of each node whether it goes out, or something hangs on it that does, over Dffs too.
func Needed(n api.Net) []bool {
	needed := make([]bool, len(n.Nodes))
	var waits []int
	for _, p := range n.Outs {
		waits = append(waits, p.Bits...)
	}
	for len(waits) > 0 {
		place := waits[len(waits)-1]
		waits = waits[:len(waits)-1]
		if needed[place] {
			continue
		}
		needed[place] = true
		x := n.Nodes[place]
		switch x.Kind {
		case api.Not, api.Dff:
			waits = append(waits, x.A)
		case api.And, api.Or, api.Xor:
			waits = append(waits, x.A, x.B)
		case api.Mux:
			waits = append(waits, x.A, x.B, x.C)
		}
	}
	return needed
}

// Package probe has nets and scripts of cycles for the tests of the layers, and tells by the document's words what goes out. It stands on api alone, so that no layer is held against itself.
package probe

import "slipstick/api"

// One is a Const.
func One(v int) api.Node { return api.Node{Kind: api.Const, A: v} }

// Input is an Input.
func Input() api.Node { return api.Node{Kind: api.Input} }

// Not is a Not.
func Not(a int) api.Node { return api.Node{Kind: api.Not, A: a} }

// And is an And.
func And(a, b int) api.Node { return api.Node{Kind: api.And, A: a, B: b} }

// Or is an Or.
func Or(a, b int) api.Node { return api.Node{Kind: api.Or, A: a, B: b} }

// Xor is a Xor.
func Xor(a, b int) api.Node { return api.Node{Kind: api.Xor, A: a, B: b} }

// Mux is a Mux.
func Mux(a, b, c int) api.Node { return api.Node{Kind: api.Mux, A: a, B: b, C: c} }

// Dff is a Dff.
func Dff(a, first int) api.Node { return api.Node{Kind: api.Dff, A: a, B: first} }

// Port is a port.
func Port(name string, bits ...int) api.Port { return api.Port{Name: name, Bits: bits} }

// Of is a net of these nodes: its Inputs come in by one port, and the last node goes out.
func Of(nodes ...api.Node) api.Net {
	n := api.Net{Nodes: nodes}
	var comes []int
	for place, x := range nodes {
		if x.Kind == api.Input {
			comes = append(comes, place)
		}
	}
	if len(comes) > 0 {
		n.Ins = []api.Port{Port("x", comes...)}
	}
	if len(nodes) > 0 {
		n.Outs = []api.Port{Port("z", len(nodes)-1)}
	}
	return n
}

// Ordinary is a net with nodes of each kind, and several ports on both ways.
func Ordinary() api.Net {
	return api.Net{
		Nodes: []api.Node{Input(), Input(), And(0, 1), Not(2), Dff(3, 0), Mux(0, 1, 2), One(1), Or(6, 5), Xor(7, 4), One(0), Dff(8, 1), Input()},
		Ins:   []api.Port{Port("a", 1, 0), Port("b_2", 11)},
		Outs:  []api.Port{Port("y", 3, 4, 3), Port("z", 8), Port("w", 0, 6, 10)},
	}
}

// Line is a net of an Input and so many Nots, one behind the other.
func Line(many int) api.Net {
	nodes := []api.Node{Input()}
	for place := range many {
		nodes = append(nodes, Not(place))
	}
	return Of(nodes...)
}

// Ahead is such a net turned about: each node stands ahead of the one it uses, and the first one goes out.
func Ahead(many int) api.Net {
	var nodes []api.Node
	for place := range many {
		nodes = append(nodes, Not(place+1))
	}
	n := Of(append(nodes, Input())...)
	n.Outs[0].Bits[0] = 0
	return n
}

// Ring is a net of so many gates that lead round, each one to that ahead of it.
func Ring(many int) api.Net {
	var nodes []api.Node
	for place := range many {
		nodes = append(nodes, Not((place+many-1)%many))
	}
	return Of(nodes...)
}

// Clone is a copy of a net, with memory of its own.
func Clone(n api.Net) api.Net {
	c := api.Net{Nodes: append([]api.Node(nil), n.Nodes...)}
	for _, p := range n.Ins {
		c.Ins = append(c.Ins, Port(p.Name, append([]int(nil), p.Bits...)...))
	}
	for _, p := range n.Outs {
		c.Outs = append(c.Outs, Port(p.Name, append([]int(nil), p.Bits...)...))
	}
	return c
}

// Wrong tells nets that may not be, in the order of the errors that net.Check tells of them, from ErrMany on: ErrMany, ErrForm, ErrName, ErrTwice, ErrNone, ErrRing. Each has the faults behind its own too.
func Wrong() []api.Net {
	ring := Of(Input(), And(0, 1))
	none := Clone(ring)
	none.Ins[0].Bits = []int{0, 0}
	twice := Clone(none)
	twice.Outs[0].Name = "x"
	name := Clone(twice)
	name.Outs = append(name.Outs, Port("wire", 1))
	form := Clone(name)
	form.Nodes[0].A = 1
	many := Clone(form)
	for len(many.Nodes) <= api.MostNodes {
		many.Nodes = append(many.Nodes, One(0))
	}
	return []api.Net{many, form, name, twice, none, ring}
}

// Errors tells what net.Check answers of those that Wrong tells.
func Errors() []api.Errno {
	return []api.Errno{api.ErrMany, api.ErrForm, api.ErrName, api.ErrTwice, api.ErrNone, api.ErrRing}
}

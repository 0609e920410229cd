package net_test

import (
	"fmt"

	"slipstick/api"
)

// Short forms of nodes and ports.

func one(v int) api.Node                  { return api.Node{Kind: api.Const, A: v} }
func input() api.Node                     { return api.Node{Kind: api.Input} }
func not(a int) api.Node                  { return api.Node{Kind: api.Not, A: a} }
func and(a, b int) api.Node               { return api.Node{Kind: api.And, A: a, B: b} }
func or(a, b int) api.Node                { return api.Node{Kind: api.Or, A: a, B: b} }
func xor(a, b int) api.Node               { return api.Node{Kind: api.Xor, A: a, B: b} }
func mux(a, b, c int) api.Node            { return api.Node{Kind: api.Mux, A: a, B: b, C: c} }
func dff(a, first int) api.Node           { return api.Node{Kind: api.Dff, A: a, B: first} }
func port(s string, bits ...int) api.Port { return api.Port{Name: s, Bits: bits} }

// of is a net of these nodes: its Inputs come in by one port, and the last node goes out.
func of(nodes ...api.Node) api.Net {
	n := api.Net{Nodes: nodes}
	var comes []int
	for at, x := range nodes {
		if x.Kind == api.Input {
			comes = append(comes, at)
		}
	}
	if len(comes) > 0 {
		n.Ins = []api.Port{port("x", comes...)}
	}
	if len(nodes) > 0 {
		n.Outs = []api.Port{port("z", len(nodes)-1)}
	}
	return n
}

// ordinary is a net with nodes of each kind, and several ports on both ways.
func ordinary() api.Net {
	return api.Net{
		Nodes: []api.Node{input(), input(), and(0, 1), not(2), dff(3, 0), mux(0, 1, 2), one(1), or(6, 5), xor(7, 4), one(0), dff(8, 1), input()},
		Ins:   []api.Port{port("a", 1, 0), port("b_2", 11)},
		Outs:  []api.Port{port("y", 3, 4, 3), port("z", 8), port("w", 0, 6, 10)},
	}
}

// cut is the head of a list, so that what is told of a great one can be read.
func cut(all []int) []int { return all[:min(len(all), 20)] }

// show is the head of a net.
func show(n api.Net) string {
	return fmt.Sprintf("%d nodes %v, in %v, out %v", len(n.Nodes), n.Nodes[:min(len(n.Nodes), 20)], n.Ins, n.Outs)
}

// line is a net of an Input and so many Nots, one behind the other.
func line(many int) api.Net {
	nodes := []api.Node{input()}
	for at := range many {
		nodes = append(nodes, not(at))
	}
	return of(nodes...)
}

// ahead is such a net turned about: each node stands ahead of the one it uses.
func ahead(many int) api.Net {
	var nodes []api.Node
	for at := range many {
		nodes = append(nodes, not(at+1))
	}
	return of(append(nodes, input())...)
}

// ring is a net of so many gates that lead round, each one to that ahead of it.
func ring(many int) api.Net {
	var nodes []api.Node
	for at := range many {
		nodes = append(nodes, not((at+many-1)%many))
	}
	return of(nodes...)
}

// tree is a net of so many Inputs, two of which are put together, and so on.
func tree(wide int) api.Net {
	var nodes []api.Node
	for range wide {
		nodes = append(nodes, input())
	}
	for at := 0; at+1 < len(nodes); at += 2 {
		nodes = append(nodes, xor(at, at+1))
	}
	return of(nodes...)
}

// crossed is a net of so many levels, in each of which two nodes use both of the level below: there are very many ways through it.
func crossed(deep int) api.Net {
	nodes := []api.Node{input(), input()}
	for range deep {
		at := len(nodes)
		nodes = append(nodes, and(at-2, at-1), or(at-1, at-2))
	}
	return of(nodes...)
}

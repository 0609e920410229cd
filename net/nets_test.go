package net_test

import (
	"slipstick/api"
	"slipstick/probe"
)

// Short forms of nodes, ports and nets.

var one, input, not, and, or, xor, mux, dff, port, of = probe.One, probe.Input, probe.Not, probe.And, probe.Or, probe.Xor, probe.Mux, probe.Dff, probe.Port, probe.Of

var ordinary, line, ahead, ring, show = probe.Ordinary, probe.Line, probe.Ahead, probe.Ring, probe.Show

// cut is the head of a list, so that what is told of a great one can be read.
func cut(all []int) []int { return all[:min(len(all), 20)] }

// tree is a net of so many Inputs, two of which are put together, and so on.
func tree(wide int) api.Net {
	var nodes []api.Node
	for range wide {
		nodes = append(nodes, input())
	}
	for at := 0; at+1 < len(nodes); at += 2 {
		nodes = append(nodes, xor(at, at+1))
	}
	return of(nodes...)
}

// crossed is a net of so many levels, in each of which two nodes use both of the level below: there are very many ways through it.
func crossed(deep int) api.Net {
	nodes := []api.Node{input(), input()}
	for range deep {
		at := len(nodes)
		nodes = append(nodes, and(at-2, at-1), or(at-1, at-2))
	}
	return of(nodes...)
}

package retime

import (
	"slipstick/api"
	"slipstick/net"
)

// ways are all ways from Inputs to a place: whether there is one, and the fewest and the most Dffs on one.
type ways struct {
	some        bool
	least, most int
}

// and are these ways, and others.
func (w ways) and(v ways) ways {
	switch {
	case !w.some:
		return v
	case !v.some:
		return w
	}
	return ways{true, min(w.least, v.least), max(w.most, v.most)}
}

// behind are these ways, and a Dff on each.
func (w ways) behind() ways {
	if !w.some {
		return w
	}
	return ways{true, w.least + 1, w.most + 1}
}

// straight is a net with a Not in place of each Dff, so that no level begins anew behind one.
func straight(n api.Net) api.Net {
	m := net.Clone(n)
	for at, x := range m.Nodes {
		if x.Kind == api.Dff {
			m.Nodes[at] = api.Node{Kind: api.Not, A: x.A}
		}
	}
	return m
}

// leading tells the ways to each node, gone through in an order in which each stands behind those it uses.
func leading(nodes []api.Node, order []int) []ways {
	to := make([]ways, len(nodes))
	for _, at := range order {
		x := nodes[at]
		if x.Kind == api.Input {
			to[at].some = true
		}
		for _, place := range net.Uses(x) {
			to[at] = to[at].and(to[place])
		}
		if x.Kind == api.Dff {
			to[at] = to[at].behind()
		}
	}
	return to
}

// Delay tells a net's delay.
func Delay(n api.Net) (int, api.Errno) {
	if e := net.Check(n); e != api.OK {
		return 0, e
	}
	order, e := net.Order(straight(n))
	if e != api.OK {
		return 0, e
	}
	to := leading(n.Nodes, order)
	var out ways
	for _, p := range n.Outs {
		for _, place := range p.Bits {
			out = out.and(to[place])
		}
	}
	if out.least != out.most {
		return 0, api.ErrCut
	}
	return out.least, api.OK
}

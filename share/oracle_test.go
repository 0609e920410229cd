package share_test

import (
	"slices"
	"testing"

	"slipstick/api"
	"slipstick/net"
	"slipstick/probe"
	"slipstick/share"
)

var one, input, not, and, or, xor, mux, dff, port, of, show = probe.One, probe.Input, probe.Not, probe.And, probe.Or, probe.Xor, probe.Mux, probe.Dff, probe.Port, probe.Of, probe.Show

// levels are the nodes' levels, each asked for when it is needed.
func levels(nodes []api.Node) []int {
	known := slices.Repeat([]int{-1}, len(nodes))
	var level func(at int) int
	level = func(at int) int {
		if known[at] < 0 {
			known[at] = 0
			x := nodes[at]
			uses := map[int][]int{api.Not: {x.A}, api.And: {x.A, x.B}, api.Or: {x.A, x.B}, api.Xor: {x.A, x.B}, api.Mux: {x.A, x.B, x.C}}[x.Kind]
			for _, place := range uses {
				known[at] = max(known[at], level(place)+1)
			}
		}
		return known[at]
	}
	for at := range nodes {
		level(at)
	}
	return known
}

// wanted is the shared net, and of how many nodes another one stands: of each node all that were looked at ahead are gone through.
func wanted(n api.Net) (api.Net, int) {
	m := probe.Clone(n)
	height, order := levels(n.Nodes), []int{}
	for at := range n.Nodes {
		order = append(order, at)
	}
	slices.SortStableFunc(order, func(a, b int) int { return height[a] - height[b] })
	stands := make([]int, len(n.Nodes))
	many := 0
	for i, at := range order {
		stands[at] = at
		x := n.Nodes[at]
		switch x.Kind {
		case api.Input, api.Dff:
			continue
		case api.Not:
			x = not(stands[x.A])
		case api.And, api.Or, api.Xor:
			uses := []int{stands[x.A], stands[x.B]}
			slices.Sort(uses)
			x.A, x.B = uses[0], uses[1]
		case api.Mux:
			x = mux(stands[x.A], stands[x.B], stands[x.C])
		}
		m.Nodes[at] = x
		for _, ahead := range order[:i] {
			if m.Nodes[ahead] == x {
				stands[at] = ahead
				many++
				break
			}
		}
	}
	for at, x := range m.Nodes {
		if x.Kind == api.Dff {
			m.Nodes[at].A = stands[x.A]
		}
	}
	for _, p := range m.Outs {
		for k := range p.Bits {
			p.Bits[k] = stands[p.Bits[k]]
		}
	}
	return m, many
}

// shares is Share of a net that may be.
func shares(t *testing.T, n api.Net) (api.Net, int) {
	t.Helper()
	m, many, e := share.Share(n)
	if e != api.OK {
		t.Fatalf("Share of %s: %d", show(n), e)
	}
	return m, many
}

// check holds all that is told of a net that may be against the oracle, and P10.2.
func check(t *testing.T, n api.Net) {
	t.Helper()
	want, times := wanted(n)
	m, many := shares(t, n)
	if !net.Same(m, want) || many != times {
		t.Fatalf("Share of %s: %s, %d; want %s, %d", show(n), show(m), many, show(want), times)
	}
	follows(t, n, m)
}

// turnedAbout is a node whose first two places stand the other way round, where that is the same gate.
func turnedAbout(x api.Node) api.Node {
	if x.Kind == api.And || x.Kind == api.Or || x.Kind == api.Xor {
		x.A, x.B = x.B, x.A
	}
	return x
}

// follows holds P10.2 of a net, and of it shared.
func follows(t *testing.T, n, m api.Net) {
	t.Helper()
	if e := net.Check(m); e != api.OK {
		t.Fatalf("Share of %s may not be: %s, %d", show(n), show(m), e)
	}
	if fault := probe.Differs(n, m, probe.NewRule(uint64(len(n.Nodes))).Script(n, 12)); fault != "" || len(n.Nodes) != len(m.Nodes) {
		t.Fatalf("Share of %s: %s: %s", show(n), show(m), fault)
	}
	needed := probe.Needed(m)
	for a, x := range m.Nodes {
		for b, y := range m.Nodes[:a] {
			if needed[a] && needed[b] && x.Kind != api.Input && x.Kind != api.Dff && (x == y || x == turnedAbout(y)) {
				t.Fatalf("Share of %s: %s: %d and %d are the same", show(n), show(m), b, a)
			}
		}
	}
}

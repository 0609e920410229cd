package share_test

import (
	"math"
	"slices"
	"testing"

	"slipstick/api"
	"slipstick/net"
	"slipstick/probe"
	"slipstick/share"
)

// P10.1

// The chapter's example: the first one stands for both.
func TestExample(t *testing.T) {
	n := of(input(), input(), and(0, 1), and(1, 0))
	m, many := shares(t, n)
	want := of(input(), input(), and(0, 1), and(0, 1))
	want.Outs[0].Bits[0] = 2
	if !net.Same(m, want) || many != 1 {
		t.Errorf("%s, %d", show(m), many)
	}
}

// holds holds what is shared against a net written out: its nodes, what stands for its last one, and of how many another one stands.
func holds(t *testing.T, given, want []api.Node, last, times int) {
	t.Helper()
	m, many := shares(t, of(given...))
	if !slices.Equal(m.Nodes, want) || m.Outs[0].Bits[0] != last || many != times {
		t.Errorf("Share of %v: %s, %d; want %v, out %d, %d", given, show(m), many, want, last, times)
	}
	check(t, of(given...))
}

func TestWrittenOut(t *testing.T) {
	// Consts.
	holds(t, []api.Node{one(0), one(1), one(0), one(1), one(1)}, []api.Node{one(0), one(1), one(0), one(1), one(1)}, 1, 3)
	// What is the same once others are: the nodes have the first ones in place of those they used.
	holds(t, []api.Node{input(), not(0), not(0), not(1), not(2), and(3, 4)}, []api.Node{input(), not(0), not(0), not(1), not(1), and(3, 3)}, 5, 2)
	// The lesser place first, also of one that is there but once; a Mux keeps its places.
	holds(t, []api.Node{input(), input(), xor(1, 0)}, []api.Node{input(), input(), xor(0, 1)}, 2, 0)
	holds(t, []api.Node{input(), input(), mux(1, 0, 1), mux(0, 1, 1), mux(1, 0, 0), mux(1, 0, 1)}, []api.Node{input(), input(), mux(1, 0, 1), mux(0, 1, 1), mux(1, 0, 0), mux(1, 0, 1)}, 2, 1)
	// Nodes that stand ahead of those they use.
	holds(t, []api.Node{not(3), input(), and(1, 4), one(1), one(1), and(4, 1), not(4)}, []api.Node{not(3), input(), and(1, 3), one(1), one(1), and(1, 3), not(3)}, 0, 3)
	holds(t, []api.Node{not(1), not(2), input(), not(4), not(2), not(0), and(3, 0)}, []api.Node{not(1), not(2), input(), not(1), not(2), not(0), and(0, 0)}, 6, 2)
	// Of other kinds nothing is the same, though the places are.
	holds(t, []api.Node{input(), input(), and(0, 1), or(0, 1), xor(0, 1), mux(0, 1, 0), not(0)}, []api.Node{input(), input(), and(0, 1), or(0, 1), xor(0, 1), mux(0, 1, 0), not(0)}, 6, 0)
	// Dffs and Inputs stand for themselves; a Dff uses what stands for its node.
	holds(t, []api.Node{input(), not(0), not(0), dff(1, 0), dff(2, 0), dff(2, 0), xor(3, 4)}, []api.Node{input(), not(0), not(0), dff(1, 0), dff(1, 0), dff(1, 0), xor(3, 4)}, 6, 1)
	holds(t, []api.Node{dff(3, 0), dff(3, 0), not(0), not(0)}, []api.Node{dff(2, 0), dff(2, 0), not(0), not(0)}, 2, 1)
}

// All that goes out, by each port.
func TestPorts(t *testing.T) {
	n := of(and(2, 3), one(1), not(5), input(), not(1), one(1), and(3, 4))
	n.Outs = append(n.Outs, port("y", 0, 2, 4, 5))
	m, many := shares(t, n)
	want := of(and(2, 3), one(1), not(1), input(), not(1), one(1), and(2, 3))
	want.Outs = []api.Port{port("z", 0), port("y", 0, 2, 2, 1)}
	if !net.Same(m, want) || many != 3 {
		t.Errorf("%s, %d", show(m), many)
	}
	check(t, n)
}

// Each pair of gates of few nodes.
func TestEachPair(t *testing.T) {
	base := []api.Node{input(), input(), one(1), one(1), dff(0, 0), dff(0, 0), not(0), not(0)}
	gates := []api.Node{one(0), one(1)}
	for a := range len(base) {
		gates = append(gates, not(a), dff(a, 0), dff(a, 1))
		for b := range len(base) {
			gates = append(gates, and(a, b), or(a, b), xor(a, b), mux(a, b, 0), mux(0, a, b), mux(a, 0, b))
		}
	}
	r := probe.NewRule(10)
	for _, x := range gates {
		for range 40 {
			check(t, of(append(slices.Clone(base), x, gates[r.Below(len(gates))], turnedAbout(x), xor(8, 9), xor(9, 10))...))
		}
	}
}

// few is a net of few nodes to choose from, so that many are the same.
func few(r *probe.Rule) api.Net {
	nodes := []api.Node{input(), input(), one(0), one(1), dff(5, 0), not(0)}
	for range 1 + r.Below(40) {
		pick := func() int { return r.Below(min(len(nodes), 8)) }
		if r.Below(3) == 0 {
			pick = func() int { return r.Below(len(nodes)) }
		}
		nodes = append(nodes, []api.Node{not(pick()), and(pick(), pick()), or(pick(), pick()), xor(pick(), pick()), mux(pick(), pick(), pick()), dff(pick(), 1), one(r.Below(2))}[r.Below(7)])
	}
	n := of(nodes...)
	n.Outs = append(n.Outs, port("all", r.Shuffled(len(nodes))...))
	return n
}

func TestMixedNets(t *testing.T) {
	r := probe.NewRule(101)
	for i := range 3000 {
		check(t, few(r))
		check(t, r.Net(r.Below(4), r.Below(4), 1+r.Below(40)))
		if i%100 == 0 {
			check(t, r.Net(3, 3, 400))
		}
	}
}

func TestNoNodesAndNothingTwice(t *testing.T) {
	for _, n := range []api.Net{{}, of(input()), of(input(), input()), of(one(0), one(1)), of(dff(0, 1), dff(0, 1)), probe.Line(40), probe.Ahead(40), {Nodes: []api.Node{dff(0, 0)}}} {
		check(t, n)
		if m, many := shares(t, n); !net.Same(m, n) || many != 0 {
			t.Errorf("Share of %s: %s, %d", show(n), show(m), many)
		}
	}
	check(t, probe.Ordinary())
}

// As many nodes as may be: two lines, of which each node is the same as that of the other one, once those ahead are.
func TestDeepNets(t *testing.T) {
	nodes := []api.Node{input(), not(0), not(0)}
	for len(nodes) < api.MostNodes {
		nodes = append(nodes, not(len(nodes)-2))
	}
	m, many := shares(t, of(nodes...))
	if e := net.Check(m); e != api.OK || many != (api.MostNodes-1)/2 || m.Outs[0].Bits[0] != api.MostNodes-1 {
		t.Errorf("Share of two lines: %d, %d, out %v", e, many, m.Outs)
	}
	if m, many := shares(t, of(slices.Repeat([]api.Node{one(1)}, api.MostNodes)...)); many != api.MostNodes-1 || m.Outs[0].Bits[0] != 0 {
		t.Errorf("Share of Consts: %d, out %v", many, m.Outs)
	}
}

func TestKey(t *testing.T) {
	for kind := -2; kind < 12; kind++ {
		for _, x := range []api.Node{{Kind: kind}, {Kind: kind, A: 1}, {Kind: kind, B: 1}, {Kind: kind, A: 5, B: 3, C: 2}, {Kind: kind, A: 3, B: 5, C: 1}, {Kind: kind, A: 4, B: 4, C: 9}, {Kind: kind, A: math.MaxInt, B: math.MinInt}, {Kind: kind, A: -1, B: 0, C: -7}} {
			want := x
			if kind >= 3 && kind <= 5 && x.A > x.B {
				want = api.Node{Kind: kind, A: x.B, B: x.A, C: x.C}
			}
			if got := share.Key(x); got != want {
				t.Errorf("Key of %v: %v, want %v", x, got, want)
			}
		}
	}
}

// P10.2: shared again nothing more is the same, but what was left in its place.
func TestAgain(t *testing.T) {
	r := probe.NewRule(102)
	for range 500 {
		n := few(r)
		m, many := shares(t, n)
		again, times := shares(t, m)
		if !net.Same(m, again) || times != many {
			t.Fatalf("Share of %s: %s, %d, then %s, %d", show(n), show(m), many, show(again), times)
		}
	}
}

// Each error of nets that may not be, each of which has the faults behind its own too.
func TestNetsThatMayNotBe(t *testing.T) {
	for i, n := range append(probe.Wrong(), probe.Ring(1), probe.Ring(2), probe.Ring(1000)) {
		want := append(probe.Errors(), api.ErrRing, api.ErrRing, api.ErrRing)[i]
		if m, many, e := share.Share(n); e != want || many != 0 || !net.Same(m, api.Net{}) {
			t.Errorf("Share of %s: %s, %d, %d, want %d", show(n), show(m), many, e, want)
		}
	}
}

// R3 and R4: the given net reads afterwards as before, what is told is the caller's to change, and told again.
func TestNetsStay(t *testing.T) {
	r := probe.NewRule(103)
	remake := func(n api.Net) api.Net {
		m, _, _ := share.Share(n)
		return m
	}
	for range 300 {
		if n := few(r); !probe.Apart(n, remake) || !probe.Apart(probe.Ordinary(), remake) {
			t.Fatalf("Share of %s changes it, or shares with it", show(n))
		}
	}
}

package sweep_test

import (
	"math"
	"slices"
	"testing"

	"slipstick/api"
	"slipstick/net"
	"slipstick/probe"
	"slipstick/sweep"
)

// P11.1

// The chapter's example.
func TestExample(t *testing.T) {
	m, many := sweeps(t, of(input(), not(0), not(0)))
	if !net.Same(m, of(input(), not(0))) || many != 1 {
		t.Errorf("%s, %d", show(m), many)
	}
}

// Nets written out: nodes, which of them go out, which are left.
func TestWrittenOut(t *testing.T) {
	for _, c := range []struct {
		nodes       []api.Node
		out         []int
		left        []api.Node
		outs, gone  []int
		description string
	}{
		{[]api.Node{input(), not(0), not(1), and(0, 1)}, []int{1}, []api.Node{input(), not(0)}, []int{1}, []int{2, 3}, "behind what goes out"},
		{[]api.Node{one(1), one(0), input(), input(), one(1)}, []int{4}, []api.Node{input(), input(), one(1)}, []int{2}, []int{0, 1}, "Inputs that nothing uses"},
		{[]api.Node{dff(0, 0), dff(2, 1), dff(1, 0), input()}, []int{3}, []api.Node{input()}, []int{0}, []int{0, 1, 2}, "registers that hang on themselves alone"},
		{[]api.Node{dff(0, 0), dff(2, 1), dff(1, 0), input()}, []int{2, 2}, []api.Node{dff(1, 1), dff(0, 0), input()}, []int{1, 1}, []int{0}, "registers that go out"},
		{[]api.Node{dff(1, 1), not(2), input(), dff(0, 0)}, []int{3}, []api.Node{dff(1, 1), not(2), input(), dff(0, 0)}, []int{3}, nil, "over Dffs"},
		{[]api.Node{one(0), mux(0, 3, 2), one(1), one(1), or(2, 3), xor(0, 0)}, []int{1}, []api.Node{one(0), mux(0, 3, 2), one(1), one(1)}, []int{1}, []int{4, 5}, "a Mux's three"},
		{[]api.Node{one(0), not(0), mux(5, 5, 4), one(1), one(1), one(0)}, []int{2}, []api.Node{mux(2, 2, 1), one(1), one(0)}, []int{0}, []int{0, 1, 3}, "ahead of those it uses"},
	} {
		n := of(c.nodes...)
		n.Outs = []api.Port{port("z", c.out...)}
		m, many := sweeps(t, n)
		if !slices.Equal(m.Nodes, c.left) || !slices.Equal(m.Outs[0].Bits, c.outs) || many != len(c.gone) {
			t.Errorf("%s: Sweep of %s: %s, %d", c.description, show(n), show(m), many)
		}
		counts, e := sweep.Count(n)
		for at, is := range counts {
			if is == slices.Contains(c.gone, at) || e != api.OK {
				t.Errorf("%s: Count of %s: %v, %d", c.description, show(n), counts, e)
			}
		}
		check(t, n)
		cones(t, n)
	}
}

// Nets of which all counts, and of no nodes.
func TestAllCounts(t *testing.T) {
	for _, n := range []api.Net{{}, of(input()), of(one(0)), of(dff(0, 1)), of(input(), dff(2, 0), not(1)), probe.Line(50), probe.Ahead(50), of(input(), input(), input())} {
		check(t, n)
		cones(t, n)
		if m, many := sweeps(t, n); !net.Same(m, n) || many != 0 {
			t.Errorf("Sweep of %s: %s, %d", show(n), show(m), many)
		}
	}
}

// Nets of which nothing goes out: but Inputs nothing counts.
func TestNothingGoesOut(t *testing.T) {
	for _, n := range []api.Net{of(one(0), not(0)), of(not(1), input(), and(0, 1), dff(3, 0), input()), of(dff(0, 0))} {
		n.Outs = nil
		check(t, n)
		m, many := sweeps(t, n)
		if kinds := net.Counts(n); len(m.Nodes) != kinds[api.Input] || many != len(n.Nodes)-kinds[api.Input] {
			t.Errorf("Sweep of %s: %s, %d", show(n), show(m), many)
		}
	}
}

func TestMixedNets(t *testing.T) {
	r := probe.NewRule(11)
	check(t, probe.Ordinary())
	cones(t, probe.Ordinary())
	for i := range 3000 {
		n := r.Net(r.Below(5), r.Below(6), 1+r.Below(40))
		check(t, n)
		cones(t, n)
		if i%100 == 0 {
			check(t, r.Net(20, 20, 300))
		}
	}
}

// Each kind of gate goes out alone, of several nodes.
func TestEachKind(t *testing.T) {
	base := []api.Node{one(0), input(), dff(3, 1), not(1), xor(1, 1)}
	many := len(base)
	for a := range many {
		for b := range many {
			for c := range many {
				for _, x := range []api.Node{not(a), and(a, b), or(a, b), xor(a, b), mux(a, b, c), dff(a, 1)} {
					check(t, of(append(slices.Clone(base), x)...))
				}
			}
		}
	}
}

// As many nodes as may be: a line that goes out, and one that doesn't.
func TestDeepNets(t *testing.T) {
	for _, n := range []api.Net{probe.Line(api.MostNodes - 1), probe.Ahead(api.MostNodes - 1)} {
		if m, many := sweeps(t, n); many != 0 || !net.Same(m, n) {
			t.Errorf("Sweep of a line: %d", many)
		}
		if cone, e := sweep.Cone(n, n.Outs[0].Bits[0]); e != api.OK || len(cone) != api.MostNodes || cone[7] != 7 {
			t.Errorf("Cone of a line: %d, %d", len(cone), e)
		}
		n.Outs[0].Bits[0] = n.Ins[0].Bits[0]
		if m, many := sweeps(t, n); many != api.MostNodes-1 || !net.Same(m, api.Net{Nodes: []api.Node{input()}, Ins: []api.Port{port("x", 0)}, Outs: []api.Port{port("z", 0)}}) {
			t.Errorf("Sweep of a line that doesn't go out: %s, %d", show(m), many)
		}
	}
	// One ring of Dffs.
	var nodes []api.Node
	for at := range api.MostNodes {
		nodes = append(nodes, dff((at+1)%api.MostNodes, at%2))
	}
	if m, many := sweeps(t, of(nodes...)); many != 0 || !slices.Equal(m.Nodes, nodes) {
		t.Errorf("Sweep of a ring of Dffs: %d", many)
	}
}

// P11.2

func TestConeOfNoPlace(t *testing.T) {
	for _, n := range []api.Net{{}, of(input()), probe.Ordinary(), of(dff(0, 0))} {
		for _, at := range []int{-1, -2, math.MinInt, len(n.Nodes), len(n.Nodes) + 1, math.MaxInt, 1 << 32} {
			if cone, e := sweep.Cone(n, at); e != api.ErrRange || len(cone) != 0 {
				t.Errorf("Cone of %s, %d: %v, %d", show(n), at, cone, e)
			}
		}
	}
}

func TestConeOverDffs(t *testing.T) {
	n := of(input(), dff(3, 0), input(), xor(1, 0), not(2), dff(5, 1), and(3, 5))
	for at, want := range [][]int{{0}, {0, 1, 3}, {2}, {0, 1, 3}, {2, 4}, {5}, {0, 1, 3, 5, 6}} {
		if cone, e := sweep.Cone(n, at); e != api.OK || !slices.Equal(cone, want) {
			t.Errorf("Cone of %d: %v, %d, want %v", at, cone, e, want)
		}
	}
}

// Each error of nets that may not be, each of which has the faults behind its own too; of Cone ahead of that of the place.
func TestNetsThatMayNotBe(t *testing.T) {
	for i, n := range append(probe.Wrong(), probe.Ring(1), probe.Ring(1000)) {
		want := append(probe.Errors(), api.ErrRing, api.ErrRing)[i]
		if m, many, e := sweep.Sweep(n); e != want || many != 0 || !net.Same(m, api.Net{}) {
			t.Errorf("Sweep of %s: %s, %d, %d, want %d", show(n), show(m), many, e, want)
		}
		if counts, e := sweep.Count(n); e != want || len(counts) != 0 {
			t.Errorf("Count of %s: %v, %d, want %d", show(n), counts, e, want)
		}
		for _, at := range []int{0, 1, -1, len(n.Nodes), math.MaxInt, math.MinInt} {
			if cone, e := sweep.Cone(n, at); e != want || len(cone) != 0 {
				t.Errorf("Cone of %s, %d: %v, %d, want %d", show(n), at, cone, e, want)
			}
		}
	}
}

// R3 and R4: the given net reads afterwards as before, what is told is the caller's to change, and told again.
func TestNetsStay(t *testing.T) {
	r := probe.NewRule(113)
	remake := func(n api.Net) api.Net {
		m, _, _ := sweep.Sweep(n)
		return m
	}
	for range 300 {
		n := r.Net(1+r.Below(5), r.Below(6), 1+r.Below(40))
		if !probe.Apart(n, remake) || !probe.Apart(probe.Line(3), remake) {
			t.Fatalf("Sweep of %s changes it, or shares with it", show(n))
		}
		given := probe.Clone(n)
		counts, _ := sweep.Count(given)
		cone, _ := sweep.Cone(given, 0)
		clear(counts)
		clear(cone)
		if !probe.Same(given, n) {
			t.Fatalf("Count or Cone of %s changes it", show(n))
		}
		check(t, given)
		cones(t, given)
	}
}

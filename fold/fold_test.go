package fold_test

import (
	"slices"
	"testing"

	"slipstick/api"
	"slipstick/fold"
	"slipstick/net"
	"slipstick/probe"
)

// P9.1

// The chapter's example.
func TestExample(t *testing.T) {
	n := of(input(), one(1), and(0, 1))
	m, many := folds(t, n)
	want := probe.Clone(n)
	want.Outs[0].Bits[0] = 0
	if !net.Same(m, want) || many != 1 {
		t.Errorf("%s, %d", show(m), many)
	}
}

// Nets written out: the last node is looked at, and what it has, and what stands for it, is told.
func TestLines(t *testing.T) {
	// 0 and 1 are Inputs; 2 and 3 Const 0 and 1; 4 is Not 0; 5 and 6 are Const 0 and 1 again.
	base := []api.Node{input(), input(), one(0), one(1), not(0), one(0), one(1)}
	for _, c := range []struct {
		x, became api.Node
		stands    int
	}{
		{not(0), not(0), 7}, {not(2), one(1), 7}, {not(3), one(0), 7}, {not(4), not(4), 0},
		{and(0, 1), and(0, 1), 7}, {and(1, 0), and(1, 0), 7}, {and(0, 2), one(0), 7}, {and(2, 0), one(0), 7}, {and(2, 3), one(0), 7}, {and(3, 2), one(0), 7},
		{and(3, 0), and(3, 0), 0}, {and(0, 3), and(0, 3), 0}, {and(3, 6), and(3, 6), 6}, {and(1, 1), and(1, 1), 1}, {and(0, 4), one(0), 7}, {and(4, 0), one(0), 7}, {and(4, 1), and(4, 1), 7},
		{or(0, 1), or(0, 1), 7}, {or(0, 3), one(1), 7}, {or(3, 0), one(1), 7}, {or(2, 3), one(1), 7}, {or(2, 0), or(2, 0), 0}, {or(0, 2), or(0, 2), 0}, {or(2, 5), or(2, 5), 5}, {or(1, 1), or(1, 1), 1}, {or(0, 4), one(1), 7}, {or(4, 0), one(1), 7},
		{xor(0, 1), xor(0, 1), 7}, {xor(1, 1), one(0), 7}, {xor(3, 3), one(0), 7}, {xor(2, 1), xor(2, 1), 1}, {xor(1, 2), xor(1, 2), 1}, {xor(2, 3), xor(2, 3), 3}, {xor(3, 2), xor(3, 2), 3}, {xor(2, 5), xor(2, 5), 5},
		{xor(3, 1), not(1), 7}, {xor(1, 3), not(1), 7}, {xor(3, 4), not(4), 0}, {xor(4, 3), not(4), 0}, {xor(3, 6), one(0), 7}, {xor(0, 4), one(1), 7}, {xor(4, 0), one(1), 7},
		{mux(0, 1, 4), mux(0, 1, 4), 7}, {mux(0, 1, 2), mux(0, 1, 2), 0}, {mux(0, 1, 3), mux(0, 1, 3), 1}, {mux(1, 1, 0), mux(1, 1, 0), 1}, {mux(2, 3, 0), mux(2, 3, 0), 0}, {mux(3, 2, 0), not(0), 7}, {mux(3, 2, 4), not(4), 0},
		{mux(2, 1, 0), and(1, 0), 7}, {mux(1, 3, 0), or(1, 0), 7}, {mux(2, 1, 1), and(1, 1), 1}, {mux(1, 3, 1), or(1, 1), 1}, {mux(2, 5, 0), one(0), 7}, {mux(3, 6, 0), one(1), 7}, {mux(2, 4, 0), one(0), 7}, {mux(4, 3, 0), one(1), 7},
		{mux(3, 1, 0), mux(3, 1, 0), 7}, {mux(1, 2, 0), mux(1, 2, 0), 7}, {mux(2, 2, 0), mux(2, 2, 0), 2}, {mux(2, 1, 2), mux(2, 1, 2), 2}, {mux(0, 4, 1), mux(0, 4, 1), 7},
		{dff(3, 1), dff(3, 1), 7}, {one(1), one(1), 7}, {one(0), one(0), 7},
	} {
		n := of(append(slices.Clone(base), c.x)...)
		m, many := folds(t, n)
		times := 0
		if c.stands != 7 || c.became.Kind != c.x.Kind {
			times = 1
		}
		if m.Nodes[7] != c.became || m.Outs[0].Bits[0] != c.stands || many != times || !slices.Equal(m.Nodes[:7], base) {
			t.Errorf("%v: %s, %d", c.x, show(m), many)
		}
		stands, e := fold.Stands(n)
		if want := []int{0, 1, 2, 3, 4, 5, 6, c.stands}; e != api.OK || !slices.Equal(stands, want) {
			t.Errorf("%v: stands %v, %d, want %v", c.x, stands, e, want)
		}
		check(t, n)
	}
}

// Each kind of gate, with each choice of Inputs, Consts, Nots, Dffs and gates in each of its places.
func TestEachGateOfEach(t *testing.T) {
	base := []api.Node{input(), input(), one(0), one(1), one(0), one(1), not(0), not(1), not(6), not(2), dff(3, 0), and(0, 3), xor(3, 0), mux(3, 2, 1), or(0, 6)}
	many := len(base)
	hold := func(x api.Node) { check(t, of(append(slices.Clone(base), x)...)) }
	for a := range many {
		hold(not(a))
		hold(dff(a, 1))
		for b := range many {
			hold(and(a, b))
			hold(or(a, b))
			hold(xor(a, b))
			for c := range many {
				hold(mux(a, b, c))
			}
		}
	}
}

// Gates of gates that fold, behind and ahead of those they use.
func TestGatesOfGates(t *testing.T) {
	for _, n := range []api.Net{
		of(input(), one(0), not(1), and(0, 2), xor(3, 2), not(4), or(5, 1), mux(1, 6, 2)),
		of(not(1), not(2), not(3), not(4), not(5), one(1), input()),
		of(mux(1, 2, 3), mux(2, 3, 4), xor(3, 5), and(4, 5), or(5, 6), one(1), input()),
		of(input(), dff(2, 1), and(1, 3), one(1), dff(1, 0), xor(4, 0)),
		of(dff(1, 0), not(0)),
		of(dff(2, 0), one(1), or(1, 0), dff(2, 1)),
		of(dff(0, 1), not(0), not(1), xor(2, 0)),
		probe.Ordinary(), probe.Line(30), probe.Ahead(31),
	} {
		check(t, n)
	}
}

func TestMixedNets(t *testing.T) {
	r := probe.NewRule(9)
	for i := range 4000 {
		check(t, r.Net(r.Below(4), r.Below(4), 1+r.Below(40)))
		if i%100 == 0 {
			check(t, r.Net(8, 8, 400))
		}
	}
}

// manyConsts is a net of gates that use Consts more often than not.
func manyConsts(r *probe.Rule) api.Net {
	nodes := []api.Node{input(), input(), one(0), one(1), dff(4, 0), not(0)}
	for range 1 + r.Below(30) {
		pick := func() int { return []int{2, 3, r.Below(len(nodes))}[r.Below(3)] }
		nodes = append(nodes, []api.Node{not(pick()), and(pick(), pick()), or(pick(), pick()), xor(pick(), pick()), mux(pick(), pick(), pick()), dff(pick(), 1)}[r.Below(6)])
	}
	n := of(nodes...)
	n.Outs = append(n.Outs, port("all", r.Shuffled(len(nodes))...))
	return n
}

func TestManyConsts(t *testing.T) {
	r := probe.NewRule(90)
	for range 4000 {
		check(t, manyConsts(r))
	}
}

func TestNoNodesAndNoGates(t *testing.T) {
	for _, n := range []api.Net{{}, of(input()), of(one(0)), of(one(1), one(1), one(0)), of(dff(0, 1)), of(input(), dff(2, 0), dff(0, 1), dff(1, 1)), {Nodes: []api.Node{dff(0, 0)}}} {
		check(t, n)
		if m, many := folds(t, n); !net.Same(m, n) || many != 0 {
			t.Errorf("Fold of %s: %s, %d", show(n), show(m), many)
		}
	}
}

// As many nodes as may be, one behind the other.
func TestDeepNets(t *testing.T) {
	// For each second Not the Input stands.
	for _, n := range []api.Net{probe.Line(api.MostNodes - 1), probe.Ahead(api.MostNodes - 1)} {
		m, many := folds(t, n)
		if e := net.Check(m); e != api.OK || many != (api.MostNodes-1)/2 || m.Nodes[m.Outs[0].Bits[0]] != not(n.Ins[0].Bits[0]) {
			t.Errorf("Fold of a line: %d, %d, out %v", e, many, m.Outs)
		}
	}
	// Each And of a line uses the Const 1 too: what goes out is the Input.
	nodes := []api.Node{input(), one(1)}
	for len(nodes) < api.MostNodes {
		nodes = append(nodes, and([]int{0, len(nodes) - 1}[min(len(nodes)-2, 1)], 1))
	}
	if m, many := folds(t, of(nodes...)); many != api.MostNodes-2 || m.Outs[0].Bits[0] != 0 {
		t.Errorf("Fold of a line of Ands: %d, out %v", many, m.Outs)
	}
}

// P9.2: what is folded may be folded again, and tells the same still.
func TestAgain(t *testing.T) {
	r := probe.NewRule(99)
	for range 500 {
		n := manyConsts(r)
		m, _ := folds(t, n)
		again, _ := folds(t, m)
		check(t, m)
		follows(t, n, again)
	}
}

// Each error of nets that may not be, each of which has the faults behind its own too.
func TestNetsThatMayNotBe(t *testing.T) {
	for i, n := range probe.Wrong() {
		want := probe.Errors()[i]
		if m, many, e := fold.Fold(n); e != want || many != 0 || !net.Same(m, api.Net{}) {
			t.Errorf("Fold of %s: %s, %d, %d, want %d", show(n), show(m), many, e, want)
		}
		if stands, e := fold.Stands(n); e != want || len(stands) != 0 {
			t.Errorf("Stands of %s: %v, %d, want %d", show(n), stands, e, want)
		}
	}
	for _, n := range []api.Net{probe.Ring(1), probe.Ring(2), probe.Ring(1000)} {
		if m, many, e := fold.Fold(n); e != api.ErrRing || many != 0 || !net.Same(m, api.Net{}) {
			t.Errorf("Fold of a ring: %s, %d, %d", show(m), many, e)
		}
	}
}

// R3 and R4: the given net reads afterwards as before, what is told is the caller's to change, and told again.
func TestNetsStay(t *testing.T) {
	r := probe.NewRule(3)
	remake := func(n api.Net) api.Net {
		m, _, _ := fold.Fold(n)
		return m
	}
	for range 300 {
		n := manyConsts(r)
		if !probe.Apart(n, remake) || !probe.Apart(probe.Ordinary(), remake) {
			t.Fatalf("Fold of %s changes it, or shares with it", show(n))
		}
		given := probe.Clone(n)
		stands, _ := fold.Stands(given)
		for i := range stands {
			stands[i] = -1
		}
		if _, _, want := wanted(n); !probe.Same(given, n) || !slices.Equal(must(fold.Stands(given)), want) {
			t.Fatalf("Stands of %s changes it", show(n))
		}
	}
}

// must is what is told of a net that may be.
func must(stands []int, _ api.Errno) []int { return stands }

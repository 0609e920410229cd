package net_test

import (
	"math"
	"reflect"
	"slices"
	"testing"

	"slipstick/api"
	"slipstick/net"
)

// P6.3

func TestCounts(t *testing.T) {
	if got, want := net.Counts(ordinary()), [8]int{2, 3, 1, 1, 1, 1, 1, 2}; got != want {
		t.Errorf("Counts: %v, want %v", got, want)
	}
	if got := net.Counts(api.Net{}); got != [8]int{} {
		t.Errorf("Counts of no nodes: %v", got)
	}
	// Kinds that are none don't count, nor is asked whether the net may be.
	n := ordinary()
	for _, kind := range []int{-1, 8, 9, 256, 1 << 32, math.MaxInt, math.MinInt} {
		n.Nodes = append(n.Nodes, api.Node{Kind: kind, A: 1})
	}
	n.Nodes = append(n.Nodes, not(-5), api.Node{Kind: api.Xor, A: 99})
	if got, want := net.Counts(n), [8]int{2, 3, 2, 1, 1, 2, 1, 2}; got != want {
		t.Errorf("Counts with kinds that are none: %v, want %v", got, want)
	}
	if got := net.Counts(tree(1 << 17)); got != [8]int{api.Input: 1 << 17, api.Xor: 1<<17 - 1} {
		t.Errorf("Counts of a tree: %v", got)
	}
}

// same holds Same of both, either way round, against what is wanted.
func same(t *testing.T, a, b api.Net, want bool) {
	t.Helper()
	if net.Same(a, b) != want || net.Same(b, a) != want {
		t.Errorf("Same of %s and %s: not %v", show(a), show(b), want)
	}
}

// changes are all the ways in which a net is made to differ in one part alone.
func changes() []func(n *api.Net) {
	var all []func(n *api.Net)
	add := func(change func(n *api.Net)) { all = append(all, change) }
	for at := range ordinary().Nodes {
		add(func(n *api.Net) { n.Nodes[at].Kind++ })
		add(func(n *api.Net) { n.Nodes[at].A++ })
		add(func(n *api.Net) { n.Nodes[at].B-- })
		add(func(n *api.Net) { n.Nodes[at].C += 1 << 32 })
		add(func(n *api.Net) { n.Nodes = slices.Delete(n.Nodes, at, at+1) })
	}
	add(func(n *api.Net) { n.Nodes = append(n.Nodes, api.Node{}) })
	add(func(n *api.Net) { n.Nodes[0], n.Nodes[2] = n.Nodes[2], n.Nodes[0] })
	add(func(n *api.Net) { n.Nodes = nil })
	for _, way := range []func(n *api.Net) *[]api.Port{func(n *api.Net) *[]api.Port { return &n.Ins }, func(n *api.Net) *[]api.Port { return &n.Outs }} {
		start := ordinary()
		for i, p := range *way(&start) {
			add(func(n *api.Net) { (*way(n))[i].Name += "x" })
			add(func(n *api.Net) { (*way(n))[i].Name = "" })
			add(func(n *api.Net) { (*way(n))[i].Bits = append(p.Bits, 0) })
			add(func(n *api.Net) { (*way(n))[i].Bits = nil })
			add(func(n *api.Net) { *way(n) = slices.Delete(*way(n), i, i+1) })
			for k := range p.Bits {
				add(func(n *api.Net) { (*way(n))[i].Bits[k]++ })
			}
		}
		add(func(n *api.Net) { *way(n) = append(*way(n), port("more", 0)) })
		add(func(n *api.Net) { *way(n) = append(*way(n), api.Port{}) })
		add(func(n *api.Net) { (*way(n))[0], (*way(n))[1] = (*way(n))[1], (*way(n))[0] })
		add(func(n *api.Net) { *way(n) = nil })
	}
	add(func(n *api.Net) { n.Ins, n.Outs = n.Outs, n.Ins })
	return all
}

func TestSame(t *testing.T) {
	same(t, ordinary(), ordinary(), true)
	same(t, api.Net{}, api.Net{}, true)
	same(t, api.Net{}, ordinary(), false)
	for _, change := range changes() {
		n := ordinary()
		change(&n)
		same(t, n, n, true)
		same(t, n, ordinary(), false)
	}
	// R6: an empty list and none are one.
	empty := api.Net{Nodes: []api.Node{}, Ins: []api.Port{}, Outs: []api.Port{}}
	same(t, empty, api.Net{}, true)
	same(t, api.Net{Outs: []api.Port{{Name: "a", Bits: []int{}}}}, api.Net{Outs: []api.Port{{Name: "a"}}}, true)
	// A port without bits is a port.
	same(t, api.Net{Outs: []api.Port{{}}}, api.Net{}, false)
	same(t, api.Net{Ins: []api.Port{{}}}, api.Net{Outs: []api.Port{{}}}, false)
	same(t, line(1000), line(1001), false)
	same(t, tree(1000), tree(1000), true)
}

// scribble writes over all of a net's memory, that behind its lists' ends too.
func scribble(n api.Net) {
	nodes := n.Nodes[:cap(n.Nodes)]
	for i := range nodes {
		nodes[i] = api.Node{Kind: 99, A: 99, B: 99, C: 99}
	}
	for _, ports := range [][]api.Port{n.Ins[:cap(n.Ins)], n.Outs[:cap(n.Outs)]} {
		for i := range ports {
			bits := ports[i].Bits[:cap(ports[i].Bits)]
			for k := range bits {
				bits[k] = 99
			}
			ports[i] = port("over", 99)
		}
	}
}

func TestClone(t *testing.T) {
	nets := []api.Net{ordinary(), {}, of(input()), line(1000), {Ins: []api.Port{{}}}, {Nodes: []api.Node{}, Outs: []api.Port{{Name: "a", Bits: []int{}}}}}
	// Nets that may not be are copied, too.
	for _, f := range faults()[1:] {
		n := ordinary()
		f.lay(&n)
		nets = append(nets, n)
	}
	for _, n := range nets {
		same(t, net.Clone(n), n, true)
		first, second := net.Clone(n), net.Clone(n)
		scribble(first)
		same(t, second, n, true)
		scribble(n)
		if n = net.Clone(second); !net.Same(n, second) {
			t.Errorf("a copy changed with what it was made of: %s", show(second))
		}
	}
}

// No change of either is one of the other: also not by what is laid behind.
func TestCloneIsItsOwn(t *testing.T) {
	for _, change := range changes() {
		n := ordinary()
		c := net.Clone(n)
		change(&c)
		same(t, n, ordinary(), true)
		c = net.Clone(n)
		change(&n)
		same(t, c, ordinary(), true)
	}
	// One list of bits in several ports is several lists in the copy.
	bits := []int{0, 1}
	c := net.Clone(api.Net{Ins: []api.Port{{Name: "a", Bits: bits}}, Outs: []api.Port{{Name: "b", Bits: bits}, {Name: "c", Bits: bits}}})
	c.Ins[0].Bits[0], c.Outs[0].Bits[1] = 5, 6
	if !slices.Equal(c.Ins[0].Bits, []int{5, 1}) || !slices.Equal(c.Outs[0].Bits, []int{0, 6}) || !slices.Equal(c.Outs[1].Bits, []int{0, 1}) || !slices.Equal(bits, []int{0, 1}) {
		t.Errorf("lists of a copy share memory: %v", c)
	}
}

// R3 and R4: nets stay as they were, with the memory behind their lists, and the same call answers the same.
func TestArgumentsStay(t *testing.T) {
	nets := []api.Net{ordinary(), ring(5), of(input(), not(9))}
	for _, f := range faults()[1:] {
		n := ordinary()
		f.lay(&n)
		nets = append(nets, n)
	}
	behind := api.Node{Kind: 77}
	for _, n := range nets {
		n.Nodes = append(n.Nodes, behind)[:len(n.Nodes)]
		was := net.Clone(n)
		for range 2 {
			e := net.Check(n)
			_, first := net.Levels(n)
			_, second := net.Depth(n)
			_, third := net.Order(n)
			if e != first || e != second || e != third || e != net.Check(n) {
				t.Errorf("errors of %s: %d, %d, %d, %d", show(n), e, first, second, third)
			}
			net.Counts(n)
			net.Same(n, was)
			net.Clone(n)
			for _, x := range n.Nodes {
				net.Uses(x)
			}
		}
		if !reflect.DeepEqual(n, was) || n.Nodes[:len(n.Nodes)+1][len(n.Nodes)] != behind {
			t.Errorf("changed: %s, was %s", show(n), show(was))
		}
	}
}

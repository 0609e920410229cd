package sim_test

import (
	"slices"
	"testing"

	"slipstick/api"
	"slipstick/nat"
	"slipstick/probe"
	"slipstick/sim"
)

// P7.1

func TestExample(t *testing.T) {
	n := of(input(), xor(0, 2), dff(1, 0))
	told, e := sim.Run(n, [][]nat.Nat{small(1), small(1), small(0), small(1)})
	if want := [][]nat.Nat{small(0), small(1), small(0), small(0)}; e != api.OK || !slices.EqualFunc(told, want, same) {
		t.Errorf("%v, %d", told, e)
	}
	s := made(t, n)
	is(t, s, 0)
	for i, v := range []uint32{1, 1, 0, 1} {
		steps(t, s, small(v), small([]uint32{0, 1, 0, 0}[i]))
		is(t, s, []int{1, 0, 0, 1}[i])
	}
}

// Each kind of gate, by all values of those it uses, written out.
func TestGates(t *testing.T) {
	for _, c := range []struct {
		x    api.Node
		want [8]uint32
	}{
		{not(0), [8]uint32{1, 0, 1, 0, 1, 0, 1, 0}},
		{not(2), [8]uint32{1, 1, 1, 1, 0, 0, 0, 0}},
		{and(0, 1), [8]uint32{0, 0, 0, 1, 0, 0, 0, 1}},
		{or(0, 1), [8]uint32{0, 1, 1, 1, 0, 1, 1, 1}},
		{xor(0, 1), [8]uint32{0, 1, 1, 0, 0, 1, 1, 0}},
		{xor(2, 2), [8]uint32{}},
		{mux(0, 1, 2), [8]uint32{0, 1, 0, 1, 0, 0, 1, 1}},
		{mux(2, 1, 0), [8]uint32{0, 0, 0, 1, 1, 0, 1, 1}},
		{one(0), [8]uint32{}},
		{one(1), [8]uint32{1, 1, 1, 1, 1, 1, 1, 1}},
		{dff(1, 0), [8]uint32{0, 0, 0, 1, 1, 0, 0, 1}},
		{dff(1, 1), [8]uint32{1, 0, 0, 1, 1, 0, 0, 1}},
	} {
		s := made(t, of(input(), input(), input(), c.x))
		for v, want := range c.want {
			peeks(t, s, small(uint32(v)), small(want))
			steps(t, s, small(uint32(v)), small(want))
		}
	}
}

// All gates of three bits, of one another, and of themselves behind a Dff.
func TestSmallNets(t *testing.T) {
	for kind := range 8 {
		for a := range 4 {
			for b := range 4 {
				for c := range 4 {
					x := api.Node{Kind: kind, A: a, B: b, C: c}
					switch kind {
					case api.Const:
						x = one(a % 2)
					case api.Input:
						continue
					case api.Not:
						x = not(a)
					case api.And, api.Or, api.Xor:
						x.C = 0
					case api.Dff:
						x = dff(a, b%2)
					}
					runs(t, of(input(), input(), dff(4, c%2), dff(2, 1), x), every(2))
				}
			}
		}
	}
}

func TestDffs(t *testing.T) {
	// Of themselves: they stay as they were at first.
	n := api.Net{Nodes: []api.Node{dff(0, 0), dff(1, 1)}, Outs: []api.Port{port("z", 0, 1)}}
	s := made(t, n)
	for range 3 {
		is(t, s, 0, 1)
		steps(t, s, nil, small(2))
	}
	// Of one another: all turn at once.
	n.Nodes = []api.Node{dff(1, 0), dff(0, 1)}
	s = made(t, n)
	for range 3 {
		is(t, s, 0, 1)
		steps(t, s, nil, small(2))
		is(t, s, 1, 0)
		steps(t, s, nil, small(1))
	}
	// In a ring of three, laid by falling and by rising places.
	n.Nodes, n.Outs[0].Bits = []api.Node{dff(1, 1), dff(2, 0), dff(0, 0)}, []int{0, 1, 2}
	s = made(t, n)
	for _, want := range []uint32{1, 4, 2, 1, 4} {
		steps(t, s, nil, small(want))
	}
	n.Nodes = []api.Node{dff(2, 1), dff(0, 0), dff(1, 0)}
	s = made(t, n)
	for _, want := range []uint32{1, 2, 4, 1, 2} {
		steps(t, s, nil, small(want))
	}
}

// In a line, both ways round: what comes in is told as many cycles later as there are Dffs.
func TestLinesOfDffs(t *testing.T) {
	for many := 1; many < 70; many += 17 {
		rising, falling := []api.Node{input()}, []api.Node{}
		for i := range many {
			rising = append(rising, dff(i, 0))
			falling = append(falling, dff(i+1, 0))
		}
		up, down := of(rising...), of(append(falling, input())...)
		down.Outs[0].Bits[0] = 0
		ups, downs := made(t, up), made(t, down)
		r := probe.NewRule(1)
		came := make([]uint32, many)
		for range 200 {
			v := uint32(r.Below(2))
			came = append(came, v)
			steps(t, ups, small(v), small(came[len(came)-1-many]))
			steps(t, downs, small(v), small(came[len(came)-1-many]))
		}
	}
}

// Places of Dffs that don't rise with what they use: State tells by places.
func TestState(t *testing.T) {
	n := api.Net{
		Nodes: []api.Node{dff(5, 1), input(), dff(1, 0), not(2), dff(3, 1), xor(0, 4)},
		Ins:   []api.Port{port("a", 1)},
		Outs:  []api.Port{port("z", 5)},
	}
	s := made(t, n)
	is(t, s, 1, 0, 1)
	steps(t, s, small(1), small(0))
	is(t, s, 0, 1, 1)
	peeks(t, s, small(0), small(1))
	is(t, s, 0, 1, 1)
	steps(t, s, small(0), small(1))
	is(t, s, 1, 0, 0)
	s.Reset()
	is(t, s, 1, 0, 1)
	steps(t, s, small(1), small(0))
	is(t, s, 0, 1, 1)
	is(t, made(t, of(input(), not(0))))
}

func TestAheadAndDeep(t *testing.T) {
	for _, many := range []int{1, 2, 3, 100, 1001, api.MostNodes - 1} {
		for v := range uint32(2) {
			want := small((v + uint32(many)) % 2)
			for _, n := range []api.Net{probe.Line(many), probe.Ahead(many)} {
				told, e := sim.Run(n, [][]nat.Nat{small(v)})
				if e != api.OK || len(told) != 1 || !same(told[0], want) {
					t.Errorf("%d Nots of %d: %v, %d", many, v, told, e)
				}
			}
		}
	}
}

func TestNetsWithoutParts(t *testing.T) {
	for _, n := range []api.Net{{}, {Nodes: []api.Node{}, Ins: []api.Port{}, Outs: []api.Port{}}, of(one(1), dff(0, 0)), of(input())} {
		n.Outs = nil
		ins := make([]nat.Nat, len(n.Ins))
		s := made(t, n)
		steps(t, s, ins, nil)
		peeks(t, s, ins, nil)
		if told, e := sim.Run(n, [][]nat.Nat{ins, ins}); e != api.OK || len(told) != 2 || len(told[0]) != 0 || len(told[1]) != 0 {
			t.Errorf("Run of %s: %v, %d", show(n), told, e)
		}
	}
	s := made(t, of(one(1)))
	steps(t, s, nil, small(1))
	steps(t, s, []nat.Nat{}, small(1))
}

// A port that goes out and tells an Input, a Const, a Dff, and one bit twice.
func TestWhatGoesOut(t *testing.T) {
	n := api.Net{
		Nodes: []api.Node{input(), one(1), one(0), dff(0, 1), input()},
		Ins:   []api.Port{port("b", 4), port("a", 0)},
		Outs:  []api.Port{port("z", 0, 1, 2, 3), port("y", 4, 4, 0), port("x", 2), port("w", 1), port("v", 2, 2)},
	}
	s := made(t, n)
	steps(t, s, small(1, 0), small(10, 3, 0, 1, 0))
	steps(t, s, small(0, 1), small(3, 4, 0, 1, 0))
	steps(t, s, small(1, 1), small(11, 7, 0, 1, 0))
	runs(t, n, probe.NewRule(2).Script(n, 20))
}

// wide is a net of a port of so many bits that come in, told turned about, behind a Dff, and by its first bit alone.
func wide(width int) api.Net {
	var n api.Net
	var comes, later, about []int
	for i := range width {
		n.Nodes = append(n.Nodes, dff(width+i, i%2))
		later = append(later, i)
		comes = append(comes, width+i)
		about = append(about, 2*width-1-i)
	}
	for range width {
		n.Nodes = append(n.Nodes, input())
	}
	n.Ins = []api.Port{port("a", comes...)}
	n.Outs = []api.Port{port("z", about...), port("y", later...), port("x", comes[0]), port("w", comes...)}
	return n
}

func TestWidths(t *testing.T) {
	for _, width := range []int{1, 2, 31, 32, 33, 63, 64, 65, 95, 96, 97, 128, 1000, 20000} {
		n := wide(width)
		r := probe.NewRule(uint64(width))
		script := r.Script(n, 4)
		least, most, last := make([]int, width), slices.Repeat([]int{1}, width), make([]int, width)
		last[width-1] = 1
		first := slices.Clone(least)
		first[0] = 1
		runs(t, n, append(script, [][]int{least}, [][]int{most}, [][]int{last}, [][]int{first}, [][]int{least}))
	}
}

// What comes in has parts 0 at its end, or is nil.
func TestParts(t *testing.T) {
	for _, width := range []int{1, 32, 64, 100} {
		s := made(t, wide(width))
		for _, n := range []nat.Nat{nil, {}, {0}, {0, 0}, {0, 0, 0, 0, 0, 0}} {
			s.Reset()
			if outs, e := s.Step([]nat.Nat{n}); e != api.OK || len(outs) != 4 || len(outs[0]) != 0 || len(outs[2]) != 0 || len(outs[3]) != 0 {
				t.Errorf("0 as %v, %d bits: %v, %d", n, width, outs, e)
			}
		}
		for _, n := range []nat.Nat{{1}, {1, 0}, {1, 0, 0, 0, 0, 0, 0, 0}} {
			if outs, e := s.Step([]nat.Nat{n}); e != api.OK || !same(outs[2:], small(1, 1)) {
				t.Errorf("1 as %v, %d bits: %v, %d", n, width, outs, e)
			}
		}
	}
}

// Nets of all kinds of nodes, that stand in no order.
func TestMixed(t *testing.T) {
	r := probe.NewRule(7)
	for range 300 {
		n := r.Net(r.Below(12), r.Below(12), 1+r.Below(40))
		runs(t, n, r.Script(n, 12))
	}
	n := r.Net(200, 500, 5000)
	runs(t, n, r.Script(n, 20))
}

// As many nodes as may be.
func TestMostNodes(t *testing.T) {
	nodes := []api.Node{input(), dff(api.MostNodes-1, 1)}
	for place := 2; place < api.MostNodes; place++ {
		nodes = append(nodes, xor(place-1, 0))
	}
	runs(t, of(nodes...), [][][]int{{{0}}, {{1}}, {{1}}, {{0}}})
}

// P7.2

func TestRun(t *testing.T) {
	n := of(input(), xor(0, 2), dff(1, 1))
	for _, script := range [][][]nat.Nat{nil, {}} {
		if told, e := sim.Run(n, script); e != api.OK || len(told) != 0 {
			t.Errorf("Run of no cycles: %v, %d", told, e)
		}
	}
	if told, e := sim.Run(n, [][]nat.Nat{small(1)}); e != api.OK || len(told) != 1 || !same(told[0], small(1)) {
		t.Errorf("Run of one cycle: %v, %d", told, e)
	}
	r := probe.NewRule(3)
	runs(t, n, r.Script(n, 5000))
	// Each run begins from a reset.
	for range 3 {
		if told, e := sim.Run(n, [][]nat.Nat{small(1), small(0)}); e != api.OK || !same(told[0], small(1)) || !same(told[1], small(0)) {
			t.Errorf("Run again: %v, %d", told, e)
		}
	}
}

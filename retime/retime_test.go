package retime_test

import (
	"math"
	"slices"
	"testing"

	"slipstick/api"
	"slipstick/net"
	"slipstick/probe"
	"slipstick/retime"
)

// P13.1

// The chapter's example.
func TestExample(t *testing.T) {
	n := of(input(), not(0), not(1))
	m := retimes(t, n, 1)
	want := probe.Clone(n)
	want.Nodes = []api.Node{input(), not(0), not(3), dff(1, 0)}
	if !net.Same(m, want) {
		t.Errorf("%s", show(m))
	}
}

func TestWrittenOut(t *testing.T) {
	// What goes out at once, early and as a Const; uses of one node by two stages share its Dffs.
	n := of(input(), one(1), not(0), and(0, 2), xor(3, 1), mux(0, 1, 4), input())
	n.Outs = []api.Port{port("z", 5, 0, 1, 2), port("y", 6, 3, 5)}
	stages, cut, e := retime.Stages(n, 1)
	if e != api.OK || cut != 2 || !slices.Equal(stages, []int{0, 0, 0, 0, 1, 1, 0}) {
		t.Errorf("Stages: %v, %d, %d", stages, cut, e)
	}
	m := retimes(t, n, 1)
	if want := []api.Node{input(), one(1), not(0), and(0, 2), xor(9, 1), mux(7, 1, 4), input(), dff(0, 0), dff(2, 0), dff(3, 0), dff(6, 0)}; !slices.Equal(m.Nodes, want) || !slices.Equal(m.Outs[0].Bits, []int{5, 7, 1, 8}) || !slices.Equal(m.Outs[1].Bits, []int{10, 9, 5}) {
		t.Errorf("%s", show(m))
	}
	m = retimes(t, n, 3)
	if want := []api.Node{input(), one(1), not(0), and(7, 10), xor(13, 1), mux(9, 1, 15), input(), dff(0, 0), dff(7, 0), dff(8, 0), dff(2, 0), dff(10, 0), dff(11, 0), dff(3, 0), dff(13, 0), dff(4, 0), dff(6, 0), dff(16, 0), dff(17, 0)}; !slices.Equal(m.Nodes, want) || !slices.Equal(m.Outs[0].Bits, []int{5, 9, 1, 12}) || !slices.Equal(m.Outs[1].Bits, []int{18, 14, 5}) {
		t.Errorf("%s", show(m))
	}
	for d := range 7 {
		check(t, n, d)
	}
}

// Of 0 registers nothing changes.
func TestNone(t *testing.T) {
	r := probe.NewRule(130)
	for range 300 {
		n := r.Net(r.Below(5), 0, 1+r.Below(40))
		if m := retimes(t, n, 0); !net.Same(m, n) {
			t.Errorf("Retime of %s, 0: %s", show(n), show(m))
		}
		check(t, n, 0)
	}
}

func TestNetsOfNoGates(t *testing.T) {
	for _, n := range []api.Net{{}, of(input()), of(one(1)), of(input(), one(0)), of(input(), input())} {
		for _, d := range []int{0, 1, 2, 63, 64} {
			if stages, cut, e := retime.Stages(n, d); e != api.OK || cut != 1 || slices.Max(append(stages, 0)) != 0 {
				t.Errorf("Stages of %s, %d: %v, %d, %d", show(n), d, stages, cut, e)
			}
			check(t, n, d)
		}
	}
}

// As many registers as there are levels, less, and more.
func TestLines(t *testing.T) {
	for length := range 30 {
		for _, d := range []int{0, 1, 2, 3, 4, 5, 9, 10, 28, 29, 30, 31, 63, 64} {
			check(t, probe.Line(length), d)
			check(t, probe.Ahead(length+1), d)
		}
	}
	// DOC.md's example: a line of five gates, by two registers.
	m := retimes(t, probe.Line(5), 2)
	if depth, e := net.Depth(m); depth != 2 || e != api.OK {
		t.Errorf("%s: depth %d, %d", show(m), depth, e)
	}
}

func TestMixedNets(t *testing.T) {
	r := probe.NewRule(13)
	for i := range 3000 {
		check(t, r.Net(r.Below(5), 0, 1+r.Below(25)), r.Below(8))
		if i%300 == 0 {
			check(t, r.Net(4, 0, 30), r.Below(65))
		}
	}
}

// Each kind of gate, of nodes of each stage and of a Const.
func TestEachKind(t *testing.T) {
	base := []api.Node{input(), one(1), not(0), not(2), not(3), not(1)}
	many := len(base)
	for a := range many {
		for b := range many {
			for c := range many {
				for _, x := range []api.Node{not(a), and(a, b), or(a, b), xor(a, b), mux(a, b, c)} {
					for d := range 4 {
						check(t, of(append(slices.Clone(base), x)...), d)
					}
				}
			}
		}
	}
}

// refused holds Stages and Retime of what they can't take against an error.
func refused(t *testing.T, n api.Net, d int, want api.Errno) {
	t.Helper()
	if stages, cut, e := retime.Stages(n, d); e != want || len(stages) != 0 || cut != 0 {
		t.Errorf("Stages of %s, %d: %v, %d, %d; want %d", show(n), d, stages, cut, e, want)
	}
	if m, e := retime.Retime(n, d); e != want || !net.Same(m, api.Net{}) {
		t.Errorf("Retime of %s, %d: %s, %d; want %d", show(n), d, show(m), e, want)
	}
}

// Wrong numbers go ahead of nets that may not be, these ahead of nets that aren't plain.
func TestErrors(t *testing.T) {
	wrong := []int{-1, 65, 66, -64, 1 << 32, math.MaxInt, math.MinInt}
	fine := []int{0, 1, 63, 64}
	for i, n := range append(probe.Wrong(), probe.Ring(1), probe.Ring(1000)) {
		want := append(probe.Errors(), api.ErrRing, api.ErrRing)[i]
		for _, d := range wrong {
			refused(t, n, d, api.ErrArg)
		}
		for _, d := range fine {
			refused(t, n, d, want)
		}
		n.Nodes = append(slices.Clone(n.Nodes), dff(0, 1))
		for _, d := range fine {
			refused(t, n, d, want)
		}
		if delay, e := retime.Delay(n); e != want || delay != 0 {
			t.Errorf("Delay of %s: %d, %d, want %d", show(n), delay, e, want)
		}
	}
	for _, n := range []api.Net{probe.Ordinary(), of(dff(0, 0)), of(input(), dff(0, 1)), of(input(), dff(0, 0), not(0))} {
		for _, d := range wrong {
			refused(t, n, d, api.ErrArg)
		}
		for _, d := range fine {
			refused(t, n, d, api.ErrCut)
		}
	}
	if retime.Most != 64 {
		t.Error("Most")
	}
}

// So many nodes as may be, and one more.
func TestMany(t *testing.T) {
	full := of(slices.Concat([]api.Node{input()}, slices.Repeat([]api.Node{not(0)}, api.MostNodes-2))...)
	if m := retimes(t, full, 1); len(m.Nodes) != api.MostNodes {
		t.Errorf("Retime: %d nodes", len(m.Nodes))
	}
	refusedMany := func(n api.Net, d int) {
		t.Helper()
		if _, _, e := retime.Stages(n, d); e != api.OK {
			t.Errorf("Stages: %d", e)
		}
		if m, e := retime.Retime(n, d); e != api.ErrMany || !net.Same(m, api.Net{}) {
			t.Errorf("Retime: %s, %d", show(m), e)
		}
	}
	refusedMany(full, 2)
	refusedMany(full, 64)
	full.Outs[0].Bits = append(full.Outs[0].Bits, 7)
	refusedMany(full, 1)
	// Each of many nodes goes out, and needs as many as may be.
	all := probe.Of(slices.Repeat([]api.Node{input()}, api.MostNodes)...)
	all.Outs[0].Bits = slices.Clone(all.Ins[0].Bits)
	refusedMany(all, 64)
	if m := retimes(t, all, 0); !net.Same(m, all) {
		t.Error("Retime by 0")
	}
	// A line as deep as may be, for 64 registers of which none is left over.
	m := retimes(t, probe.Line(api.MostNodes-65), 64)
	if depth, e := net.Depth(m); e != api.OK || depth != (api.MostNodes-65+64)/65 || len(m.Nodes) != api.MostNodes {
		t.Errorf("Retime of a line: depth %d, %d, %d nodes", depth, e, len(m.Nodes))
	}
	if delay, e := retime.Delay(m); e != api.OK || delay != 64 {
		t.Errorf("Delay of a line: %d, %d", delay, e)
	}
}

// P13.2

func TestDelay(t *testing.T) {
	two := func(n api.Net, places ...int) api.Net {
		n.Outs = []api.Port{port("z", places...)}
		return n
	}
	for _, c := range []struct {
		n     api.Net
		delay int
		e     api.Errno
	}{
		{api.Net{}, 0, api.OK},
		{of(input()), 0, api.OK},
		{of(input(), dff(0, 0)), 1, api.OK},
		{of(input(), dff(0, 1), not(1), dff(2, 0)), 2, api.OK},
		{of(dff(1, 1), dff(2, 0), dff(3, 1), input()), 0, api.OK},
		{two(of(dff(1, 1), dff(2, 0), dff(3, 1), input()), 0), 3, api.OK},
		// Consts lead to nothing, behind Dffs too.
		{of(one(0), dff(0, 0)), 0, api.OK},
		{of(one(0), dff(0, 0), dff(1, 1)), 0, api.OK},
		{of(input(), dff(0, 0), one(1), dff(2, 0), dff(3, 0), and(1, 4)), 1, api.OK},
		{of(input(), one(1), dff(1, 0), or(0, 2)), 0, api.OK},
		// Two ways, alike and unlike.
		{of(input(), dff(0, 0), dff(0, 1), xor(1, 2)), 1, api.OK},
		{of(input(), dff(0, 0), xor(0, 1)), 0, api.ErrCut},
		{of(input(), input(), dff(0, 0), mux(2, 2, 1)), 0, api.ErrCut},
		{two(of(input(), dff(0, 0)), 0, 1), 0, api.ErrCut},
		{two(of(input(), dff(0, 0), dff(0, 0)), 2, 1), 1, api.OK},
		// Unlike ways that don't go out, and of which nothing goes out.
		{two(of(input(), dff(0, 0), xor(0, 1)), 1), 1, api.OK},
		{two(of(input(), dff(0, 0), xor(0, 1), one(1)), 3), 0, api.OK},
		// What leads back to itself, though it doesn't go out.
		{of(dff(0, 0)), 0, api.ErrRing},
		{of(dff(0, 0), input()), 0, api.ErrRing},
		{of(dff(1, 0), not(0), input()), 0, api.ErrRing},
		{of(input(), dff(2, 0), and(0, 1)), 0, api.ErrRing},
		{of(input(), dff(2, 0), dff(3, 0), dff(1, 1), one(0)), 0, api.ErrRing},
		// Ahead of unlike ways.
		{two(of(input(), dff(0, 0), dff(2, 0)), 0, 1), 0, api.ErrRing},
		{probe.Line(100), 0, api.OK},
		{probe.Ordinary(), 0, api.ErrCut},
	} {
		if delay, e := retime.Delay(c.n); delay != c.delay || e != c.e {
			t.Errorf("Delay of %s: %d, %d; want %d, %d", show(c.n), delay, e, c.delay, c.e)
		}
	}
}

func TestDelayOfMixedNets(t *testing.T) {
	r := probe.NewRule(133)
	seen := map[api.Errno]int{}
	for range 20000 {
		n := r.Net(r.Below(3), r.Below(4), 1+r.Below(6))
		n.Outs = n.Outs[:min(len(n.Outs), r.Below(3))]
		want, _, same := delays(n)
		e := api.OK
		switch {
		case rings(n):
			want, e = 0, api.ErrRing
		case !same:
			want, e = 0, api.ErrCut
		}
		seen[e]++
		if delay, got := retime.Delay(n); delay != want || got != e {
			t.Fatalf("Delay of %s: %d, %d; want %d, %d", show(n), delay, got, want, e)
		}
	}
	if len(seen) != 3 {
		t.Errorf("%v", seen)
	}
}

// As many Dffs as may be, and ways that part and meet again so often that they can't be gone one by one.
func TestDeepDelays(t *testing.T) {
	nodes := []api.Node{input()}
	for len(nodes) < api.MostNodes {
		nodes = append(nodes, dff(len(nodes)-1, 0))
	}
	if delay, e := retime.Delay(of(nodes...)); delay != api.MostNodes-1 || e != api.OK {
		t.Errorf("Delay of Dffs: %d, %d", delay, e)
	}
	nodes = []api.Node{input()}
	for len(nodes) < api.MostNodes-3 {
		last := len(nodes) - 1
		nodes = append(nodes, dff(last, 0), dff(last, 1), xor(last+1, last+2))
	}
	if delay, e := retime.Delay(of(nodes...)); delay != (len(nodes)-1)/3 || e != api.OK {
		t.Errorf("Delay of ways that meet again: %d, %d", delay, e)
	}
	nodes[5] = not(3)
	if delay, e := retime.Delay(of(nodes...)); delay != 0 || e != api.ErrCut {
		t.Errorf("Delay of unlike ways: %d, %d", delay, e)
	}
}

// R3 and R4: the given net reads afterwards as before, what is told is the caller's to change, and told again.
func TestNetsStay(t *testing.T) {
	r := probe.NewRule(134)
	for range 200 {
		n := r.Net(1+r.Below(5), 0, 1+r.Below(40))
		d := r.Below(5)
		if !probe.Apart(n, func(n api.Net) api.Net {
			m, _ := retime.Retime(n, d)
			return m
		}) {
			t.Fatalf("Retime of %s, %d, changes it, or shares with it", show(n), d)
		}
		given := probe.Clone(n)
		retime.Delay(given)
		stages, _, _ := retime.Stages(given, d)
		clear(stages)
		if !probe.Same(given, n) {
			t.Fatalf("Stages or Delay of %s changes it", show(n))
		}
		check(t, given, d)
	}
}

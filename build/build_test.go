package build_test

import (
	"math"
	"reflect"
	"slices"
	"testing"

	"slipstick/api"
	"slipstick/build"
	"slipstick/net"
	"slipstick/probe"
)

// P8.1

func TestExample(t *testing.T) {
	b := build.New()
	a := b.In("a", 2)
	b.Out("z", []int{b.And(a[0], a[1])})
	want := api.Net{
		Nodes: []api.Node{probe.Input(), probe.Input(), probe.And(0, 1)},
		Ins:   []api.Port{probe.Port("a", 0, 1)},
		Outs:  []api.Port{probe.Port("z", 2)},
	}
	if n := b.Net(); !net.Same(n, want) {
		t.Errorf("%s", show(n))
	}
}

func TestNew(t *testing.T) {
	b := build.New()
	if n := b.Net(); len(n.Nodes) != 0 || len(n.Ins) != 0 || len(n.Outs) != 0 || b.Len() != 0 {
		t.Errorf("New: %s, Len %d", show(n), b.Len())
	}
	b.Bit(1)
	if other := build.New(); other.Len() != 0 || b.Len() != 1 {
		t.Error("two builders are one")
	}
}

// Each lays one node behind those there are, and tells its place.
func TestOneNode(t *testing.T) {
	b := build.New()
	want := []api.Node{}
	for range 3 {
		b.In("a", 1)
		want = append(want, probe.Input())
	}
	for range 2 {
		for _, c := range []struct {
			lay func() int
			x   api.Node
		}{
			{func() int { return b.Bit(0) }, probe.One(0)},
			{func() int { return b.Bit(1) }, probe.One(1)},
			{func() int { return b.Bit(2) }, probe.One(1)},
			{func() int { return b.Bit(-1) }, probe.One(1)},
			{func() int { return b.Bit(math.MaxInt) }, probe.One(1)},
			{func() int { return b.Bit(math.MinInt) }, probe.One(1)},
			{func() int { return b.Bit(1 << 32) }, probe.One(1)},
			{func() int { return b.Not(2) }, probe.Not(2)},
			{func() int { return b.And(0, 1) }, probe.And(0, 1)},
			{func() int { return b.And(1, 0) }, probe.And(1, 0)},
			{func() int { return b.And(1, 1) }, probe.And(1, 1)},
			{func() int { return b.Or(2, 1) }, probe.Or(2, 1)},
			{func() int { return b.Or(0, 0) }, probe.Or(0, 0)},
			{func() int { return b.Xor(2, 0) }, probe.Xor(2, 0)},
			{func() int { return b.Xor(0, 2) }, probe.Xor(0, 2)},
			{func() int { return b.Mux(0, 1, 2) }, probe.Mux(0, 1, 2)},
			{func() int { return b.Mux(2, 0, 1) }, probe.Mux(2, 0, 1)},
			{func() int { return b.Reg(2, 0) }, probe.Dff(2, 0)},
			{func() int { return b.Reg(1, 1) }, probe.Dff(1, 1)},
			{func() int { return b.Reg(1, 2) }, probe.Dff(1, 1)},
			{func() int { return b.Reg(1, -1) }, probe.Dff(1, 1)},
			{func() int { return b.Reg(0, math.MinInt) }, probe.Dff(0, 1)},
			{func() int { return b.Reg(0, 1<<32) }, probe.Dff(0, 1)},
		} {
			place := c.lay()
			want = append(want, c.x)
			if place != len(want)-1 || b.Len() != len(want) || !slices.Equal(b.Net().Nodes, want) {
				t.Fatalf("node %v: place %d, Len %d, nodes %v", c.x, place, b.Len(), b.Net().Nodes)
			}
		}
	}
	if n := b.Net(); len(n.Ins) != 3 || len(n.Outs) != 0 {
		t.Errorf("%s", show(n))
	}
}

// What the gates tell: of Mux(x, y, c) y, if c is 1, else x; of Reg what x was.
func TestWhatGatesTell(t *testing.T) {
	b := build.New()
	a := b.In("a", 3)
	x, y, c := a[0], a[1], a[2]
	b.Out("z", []int{b.Bit(0), b.Bit(1), b.Not(x), b.And(x, y), b.Or(x, y), b.Xor(x, y), b.Mux(x, y, c), b.Reg(y, 0), b.Reg(y, 1)})
	script := probe.Every(3)
	was := [2]int{0, 1}
	for i, outs := range probe.Told(b.Net(), script) {
		in := script[i][0]
		want := []int{0, 1, 1 - in[0], in[0] & in[1], in[0] | in[1], in[0] ^ in[1], in[in[2]], was[0], was[1]}
		if !slices.Equal(outs[0], want) {
			t.Errorf("%v: %v, want %v", in, outs[0], want)
		}
		was = [2]int{in[1], in[1]}
	}
}

func TestIn(t *testing.T) {
	b := build.New()
	b.Bit(1)
	want := api.Net{Nodes: []api.Node{probe.One(1)}}
	for i, width := range []int{1, 0, 5, -1, 1, math.MinInt, 64, 100} {
		name := []string{"a", "wire", "", "b", "a"}[i%5]
		word := b.In(name, width)
		var bits []int
		for range max(width, 0) {
			bits = append(bits, len(want.Nodes))
			want.Nodes = append(want.Nodes, probe.Input())
		}
		want.Ins = append(want.Ins, probe.Port(name, bits...))
		if n := b.Net(); !slices.Equal(word, bits) || !net.Same(n, want) || b.Len() != len(want.Nodes) {
			t.Errorf("In of %d bits: %v, net %s", width, word, show(n))
		}
	}
}

func TestOut(t *testing.T) {
	b := build.New()
	a := b.In("a", 3)
	want := b.Net()
	for i, x := range [][]int{nil, {}, {a[0]}, {a[2], a[0], a[0]}, a, slices.Repeat(a, 30)} {
		name := []string{"z", "y", "", "z", "Wire"}[i%5]
		b.Out(name, x)
		want.Outs = append(want.Outs, probe.Port(name, x...))
		if n := b.Net(); !net.Same(n, want) || b.Len() != 3 {
			t.Errorf("Out of %v: %s", x, show(n))
		}
	}
}

// What is told shares nothing with the builder, nor with what it was told.
func TestNetIsACopy(t *testing.T) {
	b := build.New()
	a := b.In("a", 3)
	z := []int{b.And(a[0], a[1]), a[2]}
	b.Out("z", z)
	first, want := b.Net(), probe.Clone(b.Net())
	// What is laid later changes no net that was told.
	for range 100 {
		b.Not(a[0])
		b.In("b", 2)
		b.Out("y", a)
	}
	if !net.Same(first, want) {
		t.Errorf("what was laid changed a net: %s", show(first))
	}
	late := b.Net()
	keep := probe.Clone(late)
	probe.Scribble(late)
	if !net.Same(b.Net(), keep) || !net.Same(first, want) {
		t.Errorf("what was changed in a net changed the builder: %s", show(b.Net()))
	}
	a[0], a[1], a[2], z[0], z[1] = 9, 9, 9, 9, 9
	if !net.Same(b.Net(), keep) {
		t.Errorf("what was changed in a word changed the builder: %s", show(b.Net()))
	}
}

// Words that a builder tells are the caller's to change, those that it is told stay, and none shares memory with another.
func TestWordsAreNew(t *testing.T) {
	for name, lay := range map[string]func(b *build.B, x []int) []int{
		"Pad":      func(b *build.B, x []int) []int { return b.Pad(x, 3) },
		"Pad less": func(b *build.B, x []int) []int { return b.Pad(x, 2) },
		"Pad more": func(b *build.B, x []int) []int { return b.Pad(x, 4) },
		"Each":     func(b *build.B, x []int) []int { return b.Each(api.And, x, x) },
		"Nots":     func(b *build.B, x []int) []int { return b.Nots(x) },
		"Pick":     func(b *build.B, x []int) []int { return b.Pick(x, x, x[0]) },
		"Regs":     func(b *build.B, x []int) []int { return b.Regs(x, 2) },
		"Regs 0":   func(b *build.B, x []int) []int { return b.Regs(x, 0) },
		"Regs -1":  func(b *build.B, x []int) []int { return b.Regs(x, -1) },
	} {
		b := build.New()
		// Room behind the word, that a call may not lay into.
		x := append(make([]int, 0, 20), b.In("a", 3)...)
		room := x[:20]
		z := lay(b, x)
		if !slices.Equal(x, []int{0, 1, 2}) || slices.Max(room[3:]) > 0 {
			t.Errorf("%s changed its argument: %v", name, room)
		}
		n := b.Net()
		for i := range z {
			z[i] = 77
		}
		_ = append(z, 78)
		if !slices.Equal(x, []int{0, 1, 2}) || !reflect.DeepEqual(n, b.Net()) {
			t.Errorf("%s tells what isn't the caller's to change", name)
		}
	}
}

// As many nodes as may be, and more.
func TestManyNodes(t *testing.T) {
	b := build.New()
	x := b.In("a", 1)[0]
	for range api.MostNodes {
		x = b.Not(x)
	}
	if n := b.Net(); b.Len() != api.MostNodes+1 || x != api.MostNodes || len(n.Nodes) != b.Len() || net.Check(n) != api.ErrMany {
		t.Errorf("Len %d, place %d", b.Len(), x)
	}
}

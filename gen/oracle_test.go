package gen_test

import (
	"slices"
	"testing"

	"slipstick/api"
	"slipstick/format"
	"slipstick/gen"
	"slipstick/net"
	"slipstick/oracle"
	"slipstick/probe"
)

// ops are all operations, and allBits all formats' bits.
var (
	ops     = []int{gen.Sum, gen.Product, gen.Both}
	allBits = []int{16, 32, 64}
)

// form is a configuration's format.
func form(t *testing.T, c gen.Config) format.Form {
	t.Helper()
	f, e := format.Of(c.Bits)
	if e != api.OK {
		t.Fatalf("%v: %d", c, e)
	}
	return f
}

// port is a port's name and width.
type port struct {
	name  string
	width int
}

// comes are the ports that come in, by the document's words.
func comes(c gen.Config) []port {
	l := []port{{"valid", 1}, {"mode", 3}}
	if c.Op == gen.Sum {
		l = append(l, port{"sub", 1})
	}
	l = append(l, port{"a", c.Bits}, port{"b", c.Bits})
	if c.Op == gen.Both {
		l = append(l, port{"c", c.Bits})
	}
	return l
}

// goes are the ports that go out.
func goes(c gen.Config) []port { return []port{{"ready", 1}, {"z", c.Bits}, {"flags", 5}} }

// widths are the ports' widths.
func widths(ports []port) []int {
	var all []int
	for _, p := range ports {
		all = append(all, p.width)
	}
	return all
}

// arePorts tells whether a net's ports are these.
func arePorts(got []api.Port, want []port) bool {
	return slices.EqualFunc(got, want, func(p api.Port, q port) bool { return p.Name == q.name && len(p.Bits) == q.width })
}

// exact is what must be told of what comes in but valid.
func exact(f format.Form, op int) func(v []uint64) []uint64 {
	switch op {
	case gen.Sum:
		return oracle.Sum(f)
	case gen.Product:
		return oracle.Product(f)
	}
	return oracle.Both(f)
}

// script is so many cycles of numbers that come in: of words of each class and of no rule. Where valid is 0 the mode may be none.
func script(c gen.Config, f format.Form, r *probe.Rule, cycles int) [][]uint64 {
	words := oracle.Words(f)
	var all [][]uint64
	for range cycles {
		valid := r.Next() & 1
		cycle := []uint64{valid, uint64(r.Below(8 - 3*int(valid)))}
		for _, p := range comes(c)[2:] {
			v := r.Next() & (1<<p.width - 1)
			if p.width > 1 && r.Below(3) > 0 {
				v = words[r.Below(len(words))]
			}
			cycle = append(cycle, v)
		}
		all = append(all, cycle)
	}
	return all
}

// runs holds a configuration's net, from a reset on, against exact numbers.
func runs(t *testing.T, c gen.Config, cycles int) {
	t.Helper()
	n, delay, e := gen.Generate(c)
	if e != api.OK || delay != c.Depth {
		t.Fatalf("%v: %d, %d", c, delay, e)
	}
	f := form(t, c)
	in := script(c, f, probe.NewRule(uint64(c.Bits+100*c.Op+1000*c.Depth+100000*c.Switches)), cycles)
	for i, told := range probe.Told(n, probe.Cycles(in, widths(comes(c))...)) {
		ready := probe.Number(told[0])
		if i < c.Depth {
			if ready != 0 {
				t.Fatalf("%v, cycle %d: ready", c, i)
			}
			continue
		}
		was := in[i-c.Depth]
		if ready != was[0] {
			t.Fatalf("%v, cycle %d: ready %d, where valid was %d", c, i, ready, was[0])
		}
		if ready == 0 {
			continue
		}
		got, want := []uint64{probe.Number(told[1]), probe.Number(told[2])}, exact(f, c.Op)(was[1:])
		if !slices.Equal(got, want) {
			t.Fatalf("%v, cycle %d, %x: %x, want %x", c, i, was, got, want)
		}
	}
}

// registers tells how many Dffs there are on the ways from Inputs to a place: the least and the most; false of a place that no Input leads to.
type registers struct {
	least, most int
	some        bool
}

// ways tells of each node its registers. Each stands behind those it uses, but where these are Dffs.
func ways(n api.Net) []registers {
	all := make([]registers, len(n.Nodes))
	known := make([]bool, len(n.Nodes))
	var tell func(place int) registers
	tell = func(place int) registers {
		if known[place] {
			return all[place]
		}
		known[place] = true
		x := n.Nodes[place]
		at := registers{some: x.Kind == api.Input}
		for _, use := range net.Uses(x) {
			below := tell(use)
			switch {
			case !below.some:
			case !at.some:
				at = below
			default:
				at.least, at.most = min(at.least, below.least), max(at.most, below.most)
			}
		}
		if x.Kind == api.Dff {
			at.least, at.most = at.least+1, at.most+1
		}
		all[place] = at
		return at
	}
	for place := range n.Nodes {
		tell(place)
	}
	return all
}

// shaped holds a configuration's net's ports, registers and levels.
func shaped(t *testing.T, c gen.Config) {
	t.Helper()
	n, delay, e := gen.Generate(c)
	if e != api.OK || delay != c.Depth || net.Check(n) != api.OK {
		t.Fatalf("%v: %d, %d, Check %d", c, delay, e, net.Check(n))
	}
	if !arePorts(n.Ins, comes(c)) || !arePorts(n.Outs, goes(c)) {
		t.Errorf("%v: other ports: %s", c, probe.Show(n))
	}
	all := ways(n)
	for _, p := range n.Outs {
		for k, place := range p.Bits {
			if at := all[place]; at.some && (at.least != c.Depth || at.most != c.Depth) {
				t.Fatalf("%v, %s %d: from %d to %d registers", c, p.Name, k, at.least, at.most)
			}
		}
	}
	flat, _, _ := gen.Generate(gen.Config{Bits: c.Bits, Op: c.Op, Switches: c.Switches})
	was, _ := net.Depth(flat)
	if is, _ := net.Depth(n); is > (was+c.Depth)/(c.Depth+1) {
		t.Errorf("%v: level %d, of %d without registers", c, is, was)
	}
}

package vwrite_test

import (
	"fmt"
	"math"
	"slices"
	"strings"
	"testing"

	"slipstick/api"
	"slipstick/net"
	"slipstick/probe"
	"slipstick/vlex"
	"slipstick/vwrite"
)

// P25.1

// The chapter's example, and that of the whole.
func TestExamples(t *testing.T) {
	n := probe.Of(probe.Input(), probe.Input(), probe.Input(), probe.Input(), probe.And(1, 2))
	if line, e := vwrite.Line(n, 4); line != "and G4(N4, N1, N2);" || e != api.OK {
		t.Errorf("%q, %d", line, e)
	}
	n = probe.Of(probe.Input(), probe.Input(), probe.Input(), probe.Xor(5, 1), probe.Input(), probe.Input())
	if line, e := vwrite.Line(n, 3); line != "xor G3(N3, N5, N1);" || e != api.OK {
		t.Errorf("%q, %d", line, e)
	}
}

// A net with nodes of each kind, with Inputs that come in by several ports, not in their order, and bits that go out twice, written out.
func TestWrittenOut(t *testing.T) {
	want := `module top_1(clk, rst, a, b_2, y, z, w);
  input clk;
  input rst;
  input [1:0] a;
  input [0:0] b_2;
  output [2:0] y;
  output [0:0] z;
  output [2:0] w;
  wire N0;
  wire N1;
  wire N2;
  wire N3;
  wire N4;
  wire N5;
  wire N6;
  wire N7;
  wire N8;
  wire N9;
  wire N10;
  wire N11;
  assign N0 = a[1];
  assign N1 = a[0];
  and G2(N2, N0, N1);
  not G3(N3, N2);
  dff0 D4(clk, rst, N4, N3);
  assign N5 = N2 ? N1 : N0;
  assign N6 = 1'b1;
  or G7(N7, N6, N5);
  xor G8(N8, N7, N4);
  assign N9 = 1'b0;
  dff1 D10(clk, rst, N10, N8);
  assign N11 = b_2[0];
  assign y[0] = N3;
  assign y[1] = N4;
  assign y[2] = N3;
  assign z[0] = N8;
  assign w[0] = N0;
  assign w[1] = N6;
  assign w[2] = N10;
endmodule
`
	if got := writes(t, probe.Ordinary(), "top_1"); got != want {
		t.Errorf("%s", got)
	}
	holds(t, probe.Ordinary(), "top_1")
	if got := writes(t, api.Net{}, "m"); got != "module m(clk, rst);\n  input clk;\n  input rst;\nendmodule\n" {
		t.Errorf("%s", got)
	}
}

// Nets of no nodes, of no ports, of one bit and of many, and of no rule.
func TestNets(t *testing.T) {
	holds(t, api.Net{}, "m")
	holds(t, api.Net{Nodes: []api.Node{probe.One(0), probe.Not(0)}}, "no_ports")
	holds(t, api.Net{Nodes: []api.Node{probe.Input()}, Ins: []api.Port{probe.Port("a", 0)}}, "a")
	holds(t, api.Net{Nodes: []api.Node{probe.Dff(0, 1)}, Outs: []api.Port{probe.Port("q", 0, 0)}}, "m")
	for _, many := range []int{1, 2, 9, 10, 11, 99, 100, 101, 1000} {
		holds(t, probe.Line(many), "line")
		holds(t, probe.Ahead(many), "ahead")
	}
	r := probe.NewRule(25)
	for range 300 {
		holds(t, r.Net(r.Below(20), r.Below(8), 1+r.Below(60)), strings.Repeat("m", 1+r.Below(20)))
	}
	n := api.Net{Nodes: []api.Node{probe.One(1)}}
	for i := range 64 {
		n.Outs = append(n.Outs, probe.Port(fmt.Sprint("p", i), 0))
	}
	holds(t, n, "m")
}

// The greatest nets: as many nodes as may be, all of them Inputs of one port, or one behind the other.
func TestMost(t *testing.T) {
	n := probe.Of(slices.Repeat([]api.Node{probe.Input()}, api.MostNodes)...)
	holds(t, n, "m")
	holds(t, probe.Ahead(api.MostNodes-1), "m")
}

// Ports of as many bits as may be, and one more.
func TestManyBits(t *testing.T) {
	n := probe.Of(probe.Input())
	n.Outs = []api.Port{probe.Port("y", 0), probe.Port("z", make([]int, api.MostNodes)...)}
	holds(t, n, "m")
	n.Outs[1].Bits = append(n.Outs[1].Bits, 0)
	if s, e := vwrite.Write(n, "m"); s != "" || e != api.ErrMany {
		t.Errorf("%d bytes, %d", len(s), e)
	}
	// The name is asked first; a line has no bits that go out.
	if s, e := vwrite.Write(n, "M"); s != "" || e != api.ErrName {
		t.Errorf("%d bytes, %d", len(s), e)
	}
	if s, e := vwrite.Line(n, 0); s != "assign N0 = x[0];" || e != api.OK {
		t.Errorf("%q, %d", s, e)
	}
}

// Nets that may not be: each of net's errors, whatever the name, and the place.
func TestWrongNets(t *testing.T) {
	for i, n := range probe.Wrong() {
		want := probe.Errors()[i]
		for _, name := range []string{"m", "", "wire"} {
			if s, e := vwrite.Write(n, name); s != "" || e != want {
				t.Errorf("Write of %s: %q, %d, want %d", probe.Show(n), s, e, want)
			}
		}
		for _, at := range []int{0, -1, len(n.Nodes)} {
			if s, e := vwrite.Line(n, at); s != "" || e != want {
				t.Errorf("Line of %s: %q, %d, want %d", probe.Show(n), s, e, want)
			}
		}
	}
}

// Names that are none, and at their edges.
func TestNames(t *testing.T) {
	long := strings.Repeat("m", 20)
	for _, name := range []string{"", "M", "mM", "1m", "_m", "m ", "m-1", "m\n", "\u00e9", "module", "endmodule", "input", "output", "wire", "assign", "clk", "rst", long + "m"} {
		if s, e := vwrite.Write(probe.Ordinary(), name); s != "" || e != api.ErrName {
			t.Errorf("Write by %q: %q, %d", name, s, e)
		}
	}
	for _, name := range []string{"m", "m_1", long, "and", "a", "z", "dff0"} {
		holds(t, probe.Ordinary(), name)
	}
}

func TestPlacesBeyond(t *testing.T) {
	for _, n := range []api.Net{{}, probe.Ordinary(), probe.Line(3)} {
		for _, i := range []int{math.MinInt, -1, len(n.Nodes), len(n.Nodes) + 1, 1 << 32, math.MaxInt} {
			if s, e := vwrite.Line(n, i); s != "" || e != api.ErrRange {
				t.Errorf("Line of %d, of %d nodes: %q, %d", i, len(n.Nodes), s, e)
			}
		}
	}
}

// A text is one of tokens.
func TestTokens(t *testing.T) {
	r := probe.NewRule(251)
	for range 50 {
		s := writes(t, r.Net(5, 3, 30), "m")
		if tokens, line, e := vlex.Lex(s); e != api.OK || len(tokens) == 0 {
			t.Errorf("line %d, %d: %s", line, e, s)
		}
	}
}

// P25.2

// others are the nets that come of one when one of its parts is another one.
func others(n api.Net) []api.Net {
	var all []api.Net
	change := func(do func(m *api.Net)) {
		m := probe.Clone(n)
		do(&m)
		if net.Check(m) == api.OK && !probe.Same(m, n) {
			all = append(all, m)
		}
	}
	for i := range n.Nodes {
		for v := range max(len(n.Nodes), 8) {
			change(func(m *api.Net) { m.Nodes[i].Kind = v })
			change(func(m *api.Net) { m.Nodes[i].A = v })
			change(func(m *api.Net) { m.Nodes[i].B = v })
			change(func(m *api.Net) { m.Nodes[i].C = v })
		}
		change(func(m *api.Net) { m.Nodes = append(m.Nodes, probe.Not(i)) })
	}
	for i := range n.Outs {
		change(func(m *api.Net) { m.Outs[i].Name += "_" })
		change(func(m *api.Net) { m.Outs = m.Outs[:i] })
		for v := range n.Nodes {
			change(func(m *api.Net) { m.Outs[i].Bits[0] = v })
			change(func(m *api.Net) { m.Outs[i].Bits = append(m.Outs[i].Bits, v) })
		}
		change(func(m *api.Net) { m.Outs[0], m.Outs[i] = m.Outs[i], m.Outs[0] })
	}
	for i := range n.Ins {
		change(func(m *api.Net) { m.Ins[i].Name += "_" })
		change(func(m *api.Net) { slices.Reverse(m.Ins[i].Bits) })
		change(func(m *api.Net) { m.Ins[0], m.Ins[i] = m.Ins[i], m.Ins[0] })
	}
	change(func(m *api.Net) { m.Outs[0].Bits, m.Outs[1].Bits = m.Outs[1].Bits, m.Outs[0].Bits })
	change(func(m *api.Net) { m.Ins[0].Bits, m.Ins[1].Bits = m.Ins[1].Bits, m.Ins[0].Bits })
	return all
}

// Unlike nets have unlike texts, and the same the same.
func TestUnlike(t *testing.T) {
	r := probe.NewRule(252)
	for _, n := range []api.Net{probe.Ordinary(), r.Net(8, 4, 12), r.Net(10, 0, 10)} {
		texts := map[string]api.Net{writes(t, n, "m"): n}
		for _, m := range others(n) {
			s := writes(t, m, "m")
			if was, is := texts[s]; is && !probe.Same(was, m) {
				t.Fatalf("%s and %s: %s", probe.Show(was), probe.Show(m), s)
			}
			texts[s] = m
			if s != writes(t, probe.Clone(m), "m") {
				t.Errorf("%s: again it is another text", probe.Show(m))
			}
		}
		if len(texts) < 50 {
			t.Errorf("%d texts", len(texts))
		}
		if writes(t, n, "m") == writes(t, n, "n") {
			t.Error("by unlike names the same text")
		}
	}
}

package vwrite_test

import (
	"fmt"
	"strings"
	"testing"

	"slipstick/api"
	"slipstick/probe"
	"slipstick/vwrite"
)

// bitsOf are the bits of the ports that come in, by their nodes.
func bitsOf(n api.Net) map[int]string {
	bits := map[int]string{}
	for _, p := range n.Ins {
		for k, place := range p.Bits {
			bits[place] = fmt.Sprintf("%s[%d]", p.Name, k)
		}
	}
	return bits
}

// nodeText is a node's line, by the document's words.
func nodeText(n api.Net, i int, bits map[int]string) string {
	x := n.Nodes[i]
	switch x.Kind {
	case api.Const:
		return fmt.Sprintf("assign N%d = 1'b%d;", i, x.A)
	case api.Not:
		return fmt.Sprintf("not G%d(N%d, N%d);", i, i, x.A)
	case api.And, api.Or, api.Xor:
		return fmt.Sprintf("%s G%d(N%d, N%d, N%d);", map[int]string{api.And: "and", api.Or: "or", api.Xor: "xor"}[x.Kind], i, i, x.A, x.B)
	case api.Mux:
		return fmt.Sprintf("assign N%d = N%d ? N%d : N%d;", i, x.C, x.B, x.A)
	case api.Dff:
		return fmt.Sprintf("dff%d D%d(clk, rst, N%d, N%d);", x.B, i, i, x.A)
	}
	return fmt.Sprintf("assign N%d = %s;", i, bits[i])
}

// netLines are all lines of a net's text, by the document's words.
func netLines(n api.Net, name string) []string {
	first := "module " + name + "(clk, rst"
	ports, wires, nodes, outs := []string{"  input clk;", "  input rst;"}, []string{}, []string{}, []string{}
	for _, p := range n.Ins {
		first += ", " + p.Name
		ports = append(ports, fmt.Sprintf("  input [%d:0] %s;", len(p.Bits)-1, p.Name))
	}
	for _, p := range n.Outs {
		first += ", " + p.Name
		ports = append(ports, fmt.Sprintf("  output [%d:0] %s;", len(p.Bits)-1, p.Name))
		for k, place := range p.Bits {
			outs = append(outs, fmt.Sprintf("  assign %s[%d] = N%d;", p.Name, k, place))
		}
	}
	bits := bitsOf(n)
	for i := range n.Nodes {
		wires = append(wires, fmt.Sprintf("  wire N%d;", i))
		nodes = append(nodes, "  "+nodeText(n, i, bits))
	}
	all := append([]string{first + ");"}, ports...)
	return append(append(append(append(all, wires...), nodes...), outs...), "endmodule")
}

// writes tells a net's text, that must be.
func writes(t *testing.T, n api.Net, name string) string {
	t.Helper()
	s, e := vwrite.Write(n, name)
	if e != api.OK {
		t.Fatalf("Write of %s, %q: %d", probe.Show(n), name, e)
	}
	return s
}

// holds holds a net's text, and each node's line, and that the net reads as before.
func holds(t *testing.T, n api.Net, name string) {
	t.Helper()
	given := probe.Clone(n)
	got, want := strings.SplitAfter(writes(t, given, name), "\n"), netLines(n, name)
	for i, line := range want {
		if i >= len(got) || got[i] != line+"\n" {
			t.Fatalf("%s: line %d: %q, want %q", probe.Show(n), i+1, got[min(i, len(got)-1)], line)
		}
	}
	if len(got) != len(want)+1 || got[len(want)] != "" {
		t.Fatalf("%s: %d lines, want %d", probe.Show(n), len(got), len(want))
	}
	bits := bitsOf(n)
	for i := range n.Nodes {
		if i%max(1, len(n.Nodes)/50) > 0 {
			continue
		}
		if line, e := vwrite.Line(given, i); line != nodeText(n, i, bits) || e != api.OK {
			t.Fatalf("%s: Line of %d: %q, %d", probe.Show(n), i, line, e)
		}
	}
	if !probe.Same(given, n) {
		t.Errorf("%s: the net was changed", probe.Show(n))
	}
}

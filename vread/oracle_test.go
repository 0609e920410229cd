package vread_test

import (
	"fmt"
	"slices"
	"strings"
	"testing"

	"slipstick/api"
	"slipstick/net"
	"slipstick/probe"
	"slipstick/vlex"
	"slipstick/vread"
	"slipstick/vwrite"
)

// slot is a token of a net's text, and which tokens may stand there, behind those ahead of it.
type slot struct {
	text string
	may  func(t vlex.Token) bool
}

// slots are all of a net's text.
type slots struct {
	n   api.Net
	all []slot
}

// lay lays a token where those of some texts may stand.
func (s *slots) lay(text string, may ...string) {
	may = append(may, text)
	s.all = append(s.all, slot{text, func(t vlex.Token) bool { return slices.Contains(may, t.Text) }})
}

// fixed lays tokens, parted by spaces, where none but they may stand.
func (s *slots) fixed(texts string) {
	for _, text := range strings.Fields(texts) {
		s.lay(text)
	}
}

// name lays a name.
func (s *slots) name(text string) {
	s.all = append(s.all, slot{text, func(t vlex.Token) bool { return t.Kind == vlex.Word && net.Name(t.Text) }})
}

// number lays a number where one below another may stand that isn't told already.
func (s *slots) number(v, end int, told map[int]bool) {
	given := map[int]bool{}
	for k := range told {
		given[k] = true
	}
	s.all = append(s.all, slot{fmt.Sprint(v), func(t vlex.Token) bool { return t.Kind == vlex.Number && t.Value < end && !given[t.Value] }})
}

// isWire tells whether it is the name of one of the net's nodes.
func (s *slots) isWire(t vlex.Token) bool {
	for i := range s.n.Nodes {
		if t.Text == fmt.Sprintf("N%d", i) {
			return true
		}
	}
	return false
}

// wire lays a wire's name.
func (s *slots) wire(i int) {
	s.all = append(s.all, slot{fmt.Sprintf("N%d", i), s.isWire})
}

// given lays what a node is assigned: a bit, a port's name, or a wire's.
func (s *slots) given(text string) {
	s.all = append(s.all, slot{text, func(t vlex.Token) bool {
		port := slices.ContainsFunc(s.n.Ins, func(p api.Port) bool { return p.Name == t.Text })
		return port || t.Kind == vlex.Bit || s.isWire(t)
	}})
}

// heads are the words with which nodes' lines begin.
var heads = []string{"assign", "not", "and", "or", "xor", "dff0", "dff1"}

// node lays a node's line. Behind the wires' lines there may be one more.
func (s *slots) node(i int, told map[string]map[int]bool) {
	x := s.n.Nodes[i]
	may := slices.Clone(heads)
	if i == 0 {
		may = append(may, "wire")
	}
	switch x.Kind {
	case api.Const, api.Input, api.Mux:
		s.lay("assign", may...)
		s.fixed(fmt.Sprintf("N%d =", i))
	case api.Dff:
		s.lay(fmt.Sprintf("dff%d", x.B), may...)
		s.fixed(fmt.Sprintf("D%d ( clk , rst , N%d ,", i, i))
		s.wire(x.A)
		s.fixed(")")
	default:
		s.lay(map[int]string{api.Not: "not", api.And: "and", api.Or: "or", api.Xor: "xor"}[x.Kind], may...)
		s.fixed(fmt.Sprintf("G%d ( N%d ,", i, i))
		s.wire(x.A)
		if x.Kind != api.Not {
			s.fixed(",")
			s.wire(x.B)
		}
		s.fixed(")")
	}
	switch x.Kind {
	case api.Const:
		s.given(fmt.Sprintf("1'b%d", x.A))
	case api.Mux:
		s.given(fmt.Sprintf("N%d", x.C))
		s.fixed("?")
		s.wire(x.B)
		s.fixed(":")
		s.wire(x.A)
	case api.Input:
		s.input(i, told)
	}
	s.fixed(";")
}

// input lays which bit an Input is.
func (s *slots) input(i int, told map[string]map[int]bool) {
	for _, p := range s.n.Ins {
		for k, place := range p.Bits {
			if place != i {
				continue
			}
			if told[p.Name] == nil {
				told[p.Name] = map[int]bool{}
			}
			s.given(p.Name)
			s.fixed("[")
			s.number(k, len(p.Bits), told[p.Name])
			s.fixed("]")
			told[p.Name][k] = true
		}
	}
}

// textOf is a net's text, token by token, by the document's words.
func textOf(n api.Net, name string) []slot {
	s := slots{n: n}
	s.fixed("module")
	s.name(name)
	s.fixed("( clk , rst")
	for _, p := range slices.Concat(n.Ins, n.Outs) {
		s.lay(",", ")")
		s.name(p.Name)
	}
	s.lay(")", ",")
	s.fixed("; input clk ; input rst ;")
	for i, p := range slices.Concat(n.Ins, n.Outs) {
		switch {
		case i < len(n.Ins):
			s.lay("input", "output")
		case i == len(n.Ins):
			s.lay("output", "input")
		default:
			s.lay("output")
		}
		s.fixed("[")
		s.number(len(p.Bits)-1, api.MostNodes, nil)
		s.fixed(": 0 ] " + p.Name + " ;")
	}
	s.nodes()
	for _, p := range n.Outs {
		for k, place := range p.Bits {
			s.fixed(fmt.Sprintf("assign %s [ %d ] =", p.Name, k))
			s.wire(place)
			s.fixed(";")
		}
	}
	s.lay("endmodule")
	if len(n.Nodes) == 0 {
		s.all[len(s.all)-1].may = func(t vlex.Token) bool { return t.Text == "endmodule" || t.Text == "wire" }
	}
	return s.all
}

// nodes lays the lines of the wires, and of the nodes.
func (s *slots) nodes() {
	for i := range s.n.Nodes {
		switch {
		case i > 0:
			s.lay("wire", heads...)
		case len(s.n.Outs) > 0:
			s.lay("wire", "assign")
		default:
			s.lay("wire", "endmodule")
		}
		s.fixed(fmt.Sprintf("N%d ;", i))
	}
	told := map[string]map[int]bool{}
	for i := range s.n.Nodes {
		s.node(i, told)
	}
}

// texts are the tokens' texts.
func texts(all []slot) []string {
	var l []string
	for _, x := range all {
		l = append(l, x.text)
	}
	return l
}

// tokenOf is a token's text as a token.
func tokenOf(t *testing.T, text string) vlex.Token {
	t.Helper()
	l, _, e := vlex.Lex(text)
	if e != api.OK || len(l) != 1 {
		t.Fatalf("%q is no token", text)
	}
	return l[0]
}

// parses holds a text that must be read.
func parses(t *testing.T, s string, want api.Net, name string) {
	t.Helper()
	n, m, line, e := vread.Parse(s)
	if e != api.OK || line != 0 || m != name || !probe.Same(n, want) {
		t.Fatalf("%s, %q, line %d, %d; want %s, %q, of:\n%.2000s", probe.Show(n), m, line, e, probe.Show(want), name, s)
	}
}

// refused holds a text that must not be read: the error, and the line.
func refused(t *testing.T, s string, e api.Errno, line int) {
	t.Helper()
	n, m, at, got := vread.Parse(s)
	if got != e || at != line || m != "" || !probe.Same(n, api.Net{}) {
		t.Fatalf("%s, %q, line %d, %d; want line %d, %d, of:\n%.2000s", probe.Show(n), m, at, got, line, e, s)
	}
}

// written is a net's text.
func written(t *testing.T, n api.Net, name string) string {
	t.Helper()
	s, e := vwrite.Write(n, name)
	if e != api.OK {
		t.Fatalf("Write of %s: %d", probe.Show(n), e)
	}
	return s
}

// small are nets of which each token's place is gone through: with all kinds of nodes, without nodes, ports of either way, or any ports.
func small() []api.Net {
	r := probe.NewRule(26)
	in, bit := []api.Node{probe.Input(), probe.Input(), probe.Input()}, []api.Node{probe.One(1), probe.Mux(0, 2, 0), probe.Dff(1, 0)}
	return []api.Net{
		probe.Ordinary(), {}, {Nodes: bit},
		{Nodes: in, Ins: []api.Port{probe.Port("a", 2, 0), probe.Port("b", 1)}},
		{Nodes: bit, Outs: []api.Port{probe.Port("y", 2, 0, 2), probe.Port("z", 1)}},
		r.Net(4, 2, 6), r.Net(1, 0, 2), r.Net(6, 3, 3),
	}
}

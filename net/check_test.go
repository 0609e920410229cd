package net_test

import (
	"fmt"
	"slices"
	"strings"
	"testing"

	"slipstick/api"
	"slipstick/net"
)

// P6.1

func TestOrdinaryNets(t *testing.T) {
	may(t, ordinary())
	may(t, of(one(0), one(1)))
	may(t, of(input()))
	for _, x := range []api.Node{not(0), and(0, 1), or(1, 0), xor(1, 1), mux(0, 1, 0), dff(1, 0), dff(1, 1), dff(2, 0), one(1)} {
		may(t, of(input(), input(), x))
	}
}

func TestNetsWithoutParts(t *testing.T) {
	may(t, api.Net{})
	may(t, api.Net{Nodes: []api.Node{}, Ins: []api.Port{}, Outs: []api.Port{}})
	may(t, api.Net{Nodes: []api.Node{one(1)}})
	may(t, api.Net{Nodes: []api.Node{input()}, Ins: []api.Port{port("a", 0)}})
	may(t, api.Net{Nodes: []api.Node{one(1)}, Outs: []api.Port{port("a", 0)}})
	mayNot(t, api.Net{Outs: []api.Port{port("a", 0)}}, api.ErrForm)
	mayNot(t, api.Net{Ins: []api.Port{port("a", 0)}}, api.ErrForm)
}

// All nets of up to two nodes, of which the parts are at their edges or beyond.
func TestSmallNets(t *testing.T) {
	var nodes []api.Node
	for kind := -1; kind <= 8; kind++ {
		for a := -1; a <= 2; a++ {
			for b := -1; b <= 2; b++ {
				for c := -1; c <= 2; c++ {
					nodes = append(nodes, api.Node{Kind: kind, A: a, B: b, C: c})
				}
			}
		}
	}
	for _, x := range nodes {
		check(t, of(x))
		for _, y := range nodes {
			if formed(x, 2) || formed(y, 2) {
				check(t, of(x, y))
			}
		}
	}
}

// All nets of three nodes that are formed: rings of all kinds among them.
func TestNetsOfThree(t *testing.T) {
	var nodes []api.Node
	for kind := range 8 {
		if kind == api.Or || kind == api.Xor {
			continue
		}
		for a := range 3 {
			for b := range 3 {
				for c := range 3 {
					if x := (api.Node{Kind: kind, A: a, B: b, C: c}); formed(x, 3) {
						nodes = append(nodes, x)
					}
				}
			}
		}
	}
	for _, x := range nodes {
		for _, y := range nodes {
			for _, z := range nodes {
				n := of(x, y, z)
				_, rises := rising(n.Nodes)
				if e := net.Check(n); (e == api.OK) != rises || (e == api.ErrRing) == rises {
					t.Errorf("Check of %s: %d", show(n), e)
				}
			}
		}
	}
}

func TestMostNodes(t *testing.T) {
	nodes := slices.Repeat([]api.Node{one(1)}, api.MostNodes)
	may(t, of(nodes...))
	mayNot(t, of(append(nodes, one(1))...), api.ErrMany)
}

// ports are so many, of names of their own that begin so, each of the bit 0.
func ports(s string, many int) []api.Port {
	var all []api.Port
	for i := range many {
		all = append(all, port(fmt.Sprint(s, i), 0))
	}
	return all
}

func TestMostPorts(t *testing.T) {
	may(t, api.Net{Nodes: []api.Node{one(1)}, Outs: ports("p", 64)})
	mayNot(t, api.Net{Nodes: []api.Node{one(1)}, Outs: ports("p", 65)}, api.ErrMany)
	n := api.Net{Nodes: slices.Repeat([]api.Node{input()}, 64), Ins: ports("p", 64)}
	for i := range n.Ins {
		n.Ins[i].Bits = []int{i}
	}
	may(t, n)
	n.Outs = ports("q", 1)
	mayNot(t, n, api.ErrMany)
	n.Nodes, n.Ins = n.Nodes[:40], n.Ins[:40]
	n.Outs = ports("q", 24)
	may(t, n)
	n.Outs = ports("q", 25)
	mayNot(t, n, api.ErrMany)
	n.Nodes, n.Ins, n.Outs = append(n.Nodes, slices.Repeat([]api.Node{input()}, 25)...), append(n.Ins, ports("r", 25)...), nil
	mayNot(t, n, api.ErrMany)
}

// spoilt are the nodes that come of one when one of its parts is a value that may not be: what it doesn't use, a place behind the last one or below 0, a bit that is none. Many is how many nodes there are.
func spoilt(x api.Node, many int) []api.Node {
	var all []api.Node
	for _, v := range []int{-1, 1, 2, many - 1, many, many + 1, 1 << 40, -1 << 40} {
		first, second, third := x, x, x
		first.A, second.B, third.C = v, v, v
		for _, y := range []api.Node{first, second, third} {
			if !formed(y, many) {
				all = append(all, y)
			}
		}
	}
	return all
}

func TestForm(t *testing.T) {
	for at := range ordinary().Nodes {
		for _, y := range spoilt(ordinary().Nodes[at], len(ordinary().Nodes)) {
			n := ordinary()
			n.Nodes[at] = y
			mayNot(t, n, api.ErrForm)
		}
		for _, kind := range []int{-1, -2, 8, 9, 256, 1 << 32, -1 << 40} {
			n := ordinary()
			n.Nodes[at].Kind = kind
			mayNot(t, n, api.ErrForm)
			n.Nodes[at] = api.Node{Kind: kind}
			mayNot(t, n, api.ErrForm)
		}
	}
	// The last place may be used.
	may(t, of(not(1), one(1)))
	for _, x := range []api.Node{not(2), and(0, 2), and(2, 0), or(0, 2), or(2, 0), xor(0, 2), xor(2, 0), mux(2, 0, 0), mux(0, 2, 0), mux(0, 0, 2), dff(2, 0), not(-1), and(-1, 0), or(0, -1), xor(-1, 0), mux(0, 0, -1), dff(-1, 0)} {
		mayNot(t, of(one(0), x), api.ErrForm)
	}
	for _, v := range []int{-1, 2, 3} {
		mayNot(t, of(one(v)), api.ErrForm)
		mayNot(t, of(dff(0, v)), api.ErrForm)
	}
}

func TestFormOfPorts(t *testing.T) {
	many := len(ordinary().Nodes)
	for _, bits := range [][]int{nil, {}, {-1}, {many}, {0, many}, {many, 0}, {0, 1, -1}, {1 << 40}, {-1 << 40}} {
		for i := range ordinary().Ins {
			n := ordinary()
			n.Ins[i].Bits = bits
			mayNot(t, n, api.ErrForm)
		}
		for i := range ordinary().Outs {
			n := ordinary()
			n.Outs[i].Bits = bits
			mayNot(t, n, api.ErrForm)
		}
		n := ordinary()
		n.Outs = append(n.Outs, port("more", bits...))
		mayNot(t, n, api.ErrForm)
	}
	n := ordinary()
	n.Outs[0].Bits = []int{many - 1}
	may(t, n)
}

func TestNames(t *testing.T) {
	long := strings.Repeat("abcd", 5)
	names := []string{"a", "z", "x0", "a_", "a9", "a__b", "x_1_y", "modules", "modul", "endmodul", "inputs", "in", "out", "outputs", "wires", "assig", "clk0", "cl", "rst_", "rs", "always", "reg", "and", "n0", long, long[:19] + "9"}
	wrong := []string{"", "_", "0", "9a", "_a", "A", "aB", "Abc", "a-b", "a b", " a", "a ", "a.b", "a$", "a\n", "\na", "a\x00", "é", "aé", "ä", "a\u00e4", "a\xff", "\xff", "aａ", "ſ", "a'", "a[0]", "a,", "module", "endmodule", "input", "output", "wire", "assign", "clk", "rst", long + "e", long + "_", strings.Repeat("a", 1000)}
	for i, s := range append(names, wrong...) {
		want := i < len(names)
		if net.Name(s) != want {
			t.Errorf("Name of %q: %v", s, !want)
		}
		var e api.Errno
		if !want {
			e = api.ErrName
		}
		in := api.Net{Nodes: []api.Node{input()}, Ins: []api.Port{port(s, 0)}}
		out := api.Net{Nodes: []api.Node{one(0)}, Outs: []api.Port{port("first", 0), port(s, 0)}}
		if net.Check(in) != e || net.Check(out) != e {
			t.Errorf("Check of ports %q: %d, %d, want %d", s, net.Check(in), net.Check(out), e)
		}
	}
}

// Each byte, as the first letter, as the last one, and between.
func TestLettersOfNames(t *testing.T) {
	for c := range 256 {
		b := string([]byte{byte(c)})
		for _, s := range []string{b, b + "a", "a" + b, "a" + b + "a", strings.Repeat("a", 19) + b} {
			if net.Name(s) != isName(s) {
				t.Errorf("Name of %q: %v", s, net.Name(s))
			}
		}
	}
	for many := range 30 {
		if s := strings.Repeat("a", many); net.Name(s) != (1 <= many && many <= 20) {
			t.Errorf("Name of %d letters: %v", many, net.Name(s))
		}
	}
}

func TestTwice(t *testing.T) {
	nodes := []api.Node{input(), input(), input()}
	comes := []api.Port{port("a", 0), port("b", 1), port("c", 2)}
	goes := []api.Port{port("p", 0), port("q", 1), port("r", 1)}
	may(t, api.Net{Nodes: nodes, Ins: comes, Outs: goes})
	all := append(slices.Clone(comes), goes...)
	for i := range all {
		for j := range all {
			if i == j {
				continue
			}
			named := slices.Clone(all)
			named[i].Name = named[j].Name
			mayNot(t, api.Net{Nodes: nodes, Ins: named[:3], Outs: named[3:]}, api.ErrTwice)
		}
	}
}

func TestInputs(t *testing.T) {
	// A bit twice: of one port, and of two.
	mayNot(t, api.Net{Nodes: []api.Node{input()}, Ins: []api.Port{port("a", 0, 0)}}, api.ErrNone)
	mayNot(t, api.Net{Nodes: []api.Node{input()}, Ins: []api.Port{port("a", 0), port("b", 0)}}, api.ErrNone)
	mayNot(t, api.Net{Nodes: []api.Node{input(), input()}, Ins: []api.Port{port("a", 1, 0), port("b", 1)}}, api.ErrNone)
	// One that is none; to go out isn't enough.
	mayNot(t, api.Net{Nodes: []api.Node{input()}}, api.ErrNone)
	mayNot(t, api.Net{Nodes: []api.Node{input()}, Outs: []api.Port{port("a", 0)}}, api.ErrNone)
	mayNot(t, api.Net{Nodes: []api.Node{input(), input()}, Ins: []api.Port{port("a", 0)}, Outs: []api.Port{port("z", 1)}}, api.ErrNone)
	mayNot(t, api.Net{Nodes: []api.Node{input(), input()}, Ins: []api.Port{port("a", 1)}}, api.ErrNone)
	// A bit that is no Input.
	for _, x := range []api.Node{one(0), one(1), not(0), and(0, 0), or(0, 0), xor(0, 0), mux(0, 0, 0), dff(0, 0), dff(1, 1)} {
		mayNot(t, api.Net{Nodes: []api.Node{input(), x}, Ins: []api.Port{port("a", 0, 1)}}, api.ErrNone)
		mayNot(t, api.Net{Nodes: []api.Node{input(), x}, Ins: []api.Port{port("a", 0), port("b", 1)}}, api.ErrNone)
		mayNot(t, api.Net{Nodes: []api.Node{input(), x}, Ins: []api.Port{port("a", 1)}}, api.ErrNone)
	}
	// What goes out may be an Input, and a bit as often as one likes.
	may(t, api.Net{Nodes: []api.Node{input()}, Ins: []api.Port{port("a", 0)}, Outs: []api.Port{port("z", 0, 0), port("y", 0)}})
}

func TestRings(t *testing.T) {
	for _, many := range []int{1, 2, 3, 10, 1000, api.MostNodes} {
		n := ring(many)
		mayNot(t, n, api.ErrRing)
		// Through a Dff it is none.
		for _, at := range []int{0, many / 2, many - 1} {
			x := n.Nodes[at]
			n.Nodes[at].Kind = api.Dff
			may(t, n)
			n.Nodes[at] = x
		}
	}
	for _, x := range []api.Node{not(1), and(0, 1), and(1, 0), or(0, 1), or(1, 0), xor(1, 0), xor(0, 1), mux(1, 0, 0), mux(0, 1, 0), mux(0, 0, 1)} {
		mayNot(t, of(input(), x), api.ErrRing)
	}
	may(t, of(dff(0, 1)))
	may(t, of(input(), xor(0, 2), dff(1, 0)))
	may(t, of(dff(1, 0), dff(0, 1)))
	// Off the way that goes out, and behind nodes that have levels.
	mayNot(t, of(input(), not(0), not(3), not(2), not(1)), api.ErrRing)
	mayNot(t, of(input(), and(0, 4), dff(1, 0), or(2, 1), mux(3, 0, 2)), api.ErrRing)
	// The last node of a great net leads back.
	n := line(5000)
	n.Nodes[1] = and(0, 5000)
	mayNot(t, n, api.ErrRing)
}

// faults are what makes each error, laid to any net.
func faults() []struct {
	e   api.Errno
	lay func(n *api.Net)
} {
	out := func(n *api.Net, s string, bits ...int) { n.Outs = append(n.Outs, port(s, bits...)) }
	node := func(n *api.Net, x api.Node) { n.Nodes = append(n.Nodes, x) }
	return []struct {
		e   api.Errno
		lay func(n *api.Net)
	}{
		{api.ErrMany, func(n *api.Net) { n.Nodes = append(n.Nodes, slices.Repeat([]api.Node{one(0)}, api.MostNodes)...) }},
		{api.ErrMany, func(n *api.Net) { n.Outs = append(n.Outs, ports("many", 64)...) }},
		{api.ErrForm, func(n *api.Net) { node(n, api.Node{Kind: 8}) }},
		{api.ErrForm, func(n *api.Net) { node(n, not(-1)) }},
		{api.ErrForm, func(n *api.Net) { node(n, api.Node{Kind: api.Const, C: 1}) }},
		{api.ErrForm, func(n *api.Net) { out(n, "nobits") }},
		{api.ErrForm, func(n *api.Net) { n.Ins = append(n.Ins, port("below", -1)) }},
		{api.ErrName, func(n *api.Net) { out(n, "wire", 0) }},
		{api.ErrName, func(n *api.Net) { n.Ins[0].Name = "" }},
		{api.ErrTwice, func(n *api.Net) { out(n, "y", 0) }},
		{api.ErrTwice, func(n *api.Net) { out(n, "b_2", 0) }},
		{api.ErrNone, func(n *api.Net) { node(n, input()) }},
		{api.ErrNone, func(n *api.Net) { n.Ins = append(n.Ins, port("again", 0)) }},
		{api.ErrNone, func(n *api.Net) { n.Ins = append(n.Ins, port("gate", 2)) }},
		{api.ErrRing, func(n *api.Net) { node(n, not(len(n.Nodes))) }},
		{api.ErrRing, func(n *api.Net) { node(n, not(len(n.Nodes)+1)); node(n, xor(len(n.Nodes)-1, 0)) }},
	}
}

// Of several errors the first one is told, whichever was laid first.
func TestFirstError(t *testing.T) {
	for i, f := range faults() {
		n := ordinary()
		f.lay(&n)
		mayNot(t, n, f.e)
		for j, g := range faults() {
			if i == j {
				continue
			}
			n := ordinary()
			f.lay(&n)
			g.lay(&n)
			first := f.e
			for _, e := range []api.Errno{api.ErrMany, api.ErrForm, api.ErrName, api.ErrTwice, api.ErrNone, api.ErrRing} {
				if e == f.e || e == g.e {
					first = e
					break
				}
			}
			mayNot(t, n, first)
		}
	}
	n := ordinary()
	for _, f := range slices.Backward(faults()) {
		f.lay(&n)
		mayNot(t, n, f.e)
	}
}

func TestUses(t *testing.T) {
	for _, c := range []struct {
		kind int
		want []int
	}{
		{api.Const, nil}, {api.Input, nil}, {api.Not, []int{7}}, {api.And, []int{7, 5}}, {api.Or, []int{7, 5}}, {api.Xor, []int{7, 5}}, {api.Mux, []int{7, 5, 9}}, {api.Dff, []int{7}},
		{-1, nil}, {8, nil}, {1 << 32, nil}, {-1 << 40, nil}, {api.And - 256, nil},
	} {
		if got := net.Uses(api.Node{Kind: c.kind, A: 7, B: 5, C: 9}); !slices.Equal(got, c.want) {
			t.Errorf("Uses of kind %d: %v, want %v", c.kind, got, c.want)
		}
	}
	// Places are told as they stand: one twice, and ones that no node has.
	if got := net.Uses(mux(4, 4, -1)); !slices.Equal(got, []int{4, 4, -1}) {
		t.Errorf("Uses of one place twice: %v", got)
	}
}

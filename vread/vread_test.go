package vread_test

import (
	"fmt"
	"slices"
	"strings"
	"testing"

	"slipstick/api"
	"slipstick/gen"
	"slipstick/probe"
	"slipstick/vlex"
	"slipstick/vread"
)

// P26.1

// The chapter's example, and those of the whole.
func TestExamples(t *testing.T) {
	refused(t, "module m(clk);", api.ErrForm, 1)
	n := probe.Of(probe.Input(), probe.Input(), probe.Input(), probe.Xor(5, 1), probe.Input(), probe.Input())
	s := written(t, n, "m")
	parses(t, s, n, "m")
	// Without the wire N5 the line on which it is used first is wrong.
	lines := strings.Split(s, "\n")
	at := slices.Index(lines, "  wire N5;")
	lines = slices.Delete(lines, at, at+1)
	refused(t, strings.Join(lines, "\n"), api.ErrForm, 1+slices.Index(lines, "  xor G3(N3, N5, N1);"))
}

// Texts written out, and parted in other ways.
func TestWrittenOut(t *testing.T) {
	want := api.Net{
		Nodes: []api.Node{probe.Input(), probe.Mux(3, 2, 0), probe.One(1), probe.Dff(0, 1)},
		Ins:   []api.Port{probe.Port("a", 0)},
		Outs:  []api.Port{probe.Port("z", 3, 3)},
	}
	parses(t, `module top(clk,rst,a,z);input clk;input rst;input[0:0]a;output[1:0]z;wire N0;wire N1;wire N2;wire N3;assign N0=a[0];assign N1=N0?N2:N3;assign N2=1'b1;dff1 D3(clk,rst,N3,N0);assign z[0]=N3;assign z[1]=N3;endmodule`, want, "top")
	parses(t, `// a text
module	top
( clk , rst // the clock; and the reset
, a , z ) ; input clk; input
rst; input [ 0:0 ] a; output [1 : 0] z; wire N0; wire N1; // wire N9;
wire N2; wire N3; assign N0 = a [0]; assign N1 = N0
? N2
: N3; assign N2 = 1'b1; dff1 D3 (clk, rst, N3, N0); assign z[0] = N3; assign z[1] = N3; endmodule // endmodule
// no more`, want, "top")
	parses(t, "module m(clk,rst);input clk;input rst;endmodule", api.Net{}, "m")
	parses(t, "module a(clk, rst, a); input clk; input rst; input [0:0] a; wire N0; assign N0 = a[0]; endmodule", api.Net{Nodes: []api.Node{probe.Input()}, Ins: []api.Port{probe.Port("a", 0)}}, "a")
}

// joined are tokens, parted in several ways: those that are told apart by nothing else always by something.
func joined(r *probe.Rule, l []string) string {
	s := ""
	for i, text := range l {
		sign := i == 0 || strings.Contains("()[]:;,?=", text) || strings.Contains("()[]:;,?=", l[i-1])
		between := []string{"", " ", "\n", "\t", " // 'x' N1;\n", "\n\n", "//\n"}
		if !sign {
			between = between[1:]
		}
		s += between[r.Below(len(between))] + text
	}
	return s
}

// Nets of each kind of node, with their tokens parted in any way, or not at all.
func TestParted(t *testing.T) {
	r := probe.NewRule(261)
	for _, n := range small() {
		l := texts(textOf(n, "m_1"))
		for _, between := range []string{" ", "\n", "\t", " \n// x\n"} {
			parses(t, strings.Join(l, between), n, "m_1")
		}
		for range 50 {
			parses(t, joined(r, l), n, "m_1")
		}
	}
}

// pool are tokens that are laid in each place: all that a text has, and others beside them.
func pool(n api.Net) []string {
	l := []string{
		"module", "endmodule", "input", "output", "wire", "assign", "clk", "rst", "not", "and", "or", "xor", "dff0", "dff1", "dff2", "dff", "nand", "mux",
		"(", ")", "[", "]", ":", ";", ",", "?", "=", "1'b0", "1'b1", "0", "1", "2", "3", "4", "5", "9", "64", "262143", "262144", "262145", "9999999",
		"m", "zz", "a", "b", "y", "z", "in0", "in1", "out0", "out1", "N", "n0", "N0", "N1", "N2", "N3", "N01", "N9999999", "N10000000", "M", "_", "A", "aA",
		"G", "G0", "G1", "G2", "G00", "D0", "D1", "D2", "D3", "D4", "g0", "d4", strings.Repeat("m", 20), strings.Repeat("m", 21), "b0",
	}
	many := len(n.Nodes)
	for _, c := range "NGD" {
		l = append(l, fmt.Sprint(string(c), many-1), fmt.Sprint(string(c), many), fmt.Sprint(string(c), many+1))
	}
	return slices.DeleteFunc(l, func(s string) bool { return strings.Contains(s, "-") })
}

// Each token of a text, with each other one in its place, whatever comes behind: where it may not stand it is the first one that is wrong; where it may, it isn't.
func TestEachPlace(t *testing.T) {
	for _, n := range small() {
		all := textOf(n, "m")
		l := texts(all)
		for i, x := range all {
			for j, text := range pool(n) {
				may := x.may(tokenOf(t, text))
				ahead := strings.Join(append(slices.Clone(l[:i]), text), "\n")
				other := []string{"", "\n" + strings.Join(l[i:], "\n"), "\n;\n=", "\nmodule"}[(i+j)%4]
				for _, behind := range []string{"\n" + strings.Join(l[i+1:], "\n"), other} {
					_, _, line, e := vread.Parse(ahead + behind)
					if !may {
						refused(t, ahead+behind, api.ErrForm, i+1)
					} else if strings.TrimSpace(behind) != "" && e == api.ErrForm && line > 0 && line <= i+1 {
						t.Fatalf("%q may stand on line %d of\n%s", text, line, ahead+behind)
					}
				}
			}
		}
	}
}

// The end too soon: the last token is told, and its line; of none 1. And each token left out, and doubled.
func TestLeftOutAndDoubled(t *testing.T) {
	for _, n := range small() {
		all := textOf(n, "m")
		l := texts(all)
		for i := range all {
			refused(t, strings.Join(l[:i], "\n"), api.ErrForm, max(i, 1))
			refused(t, strings.Join(l[:i], "\n")+"\n\n\n// x\n ", api.ErrForm, max(i, 1))
			if i+1 < len(all) && !all[i].may(tokenOf(t, l[i+1])) {
				refused(t, strings.Join(slices.Concat(l[:i], []string{"//"}, l[i+1:]), "\n"), api.ErrForm, i+2)
			}
			double := strings.Join(slices.Concat(l[:i+1], l[i:]), "\n")
			if i+1 == len(all) || !all[i+1].may(tokenOf(t, l[i])) {
				refused(t, double, api.ErrForm, i+2)
			}
		}
		for _, text := range pool(n) {
			refused(t, strings.Join(append(slices.Clone(l), text), "\n"), api.ErrForm, len(l)+1)
			refused(t, strings.Join(append(slices.Clone(l), text, "module", "m"), "\n"), api.ErrForm, len(l)+1)
		}
	}
	for s, line := range map[string]int{"": 1, " \t": 1, "\n\n": 1, "// x\n//y": 1, "\n\nmodule": 3, "module\n\nm // x\n\n": 3, "\n\n;": 3} {
		refused(t, s, api.ErrForm, line)
	}
}

// What is no token is told first, wherever it stands.
func TestNoTokens(t *testing.T) {
	r := probe.NewRule(262)
	for _, n := range small() {
		l := strings.Split(written(t, n, "m"), "\n")
		for i := range l {
			for _, wrong := range []string{"~", "01", "1'b2", "12345678", "/", "\r", "1a", "\u00e9", "\x00"} {
				k := r.Below(len(l[i]) + 1)
				if k > 0 && k < len(l[i]) {
					k = 0
				}
				broken := slices.Clone(l)
				broken[i] = l[i][:k] + " " + wrong + " " + l[i][k:]
				refused(t, strings.Join(broken, "\n"), api.ErrForm, i+1)
				broken[0] = "; " + broken[0]
				refused(t, strings.Join(broken, "\n"), api.ErrForm, i+1)
			}
		}
	}
}

// head is the begin of a text of ports' lines, up to the wires' lines.
func head(names string, lines ...string) string {
	return "module m(clk, rst" + names + "); input clk; input rst; " + strings.Join(lines, " ")
}

// Numbers at their edges and beyond, and bits told twice.
func TestNumbers(t *testing.T) {
	one := head(", a", "input [1:0] a;", "wire N0; wire N1;\n")
	for s, line := range map[string]int{
		"assign N0 = a[2];": 2, "assign N0 = a[1]; assign N1\n= a[1];": 3, "assign N0 = a[0]; assign N1 =\na\n[\n0\n]": 5, "assign N0 = a[9999999];": 2, "assign N0 = a[1'b0];": 2, "assign N0 = a[N0];": 2,
		"assign N0 = N2 ? N0 : N0;": 2, "assign N0 = N0 ?\nN2 : N0;": 3, "assign N0 = N0 ? N0 :\nN2;": 3, "assign N1 = a[0];": 2, "not G0(N0,\nN2);": 3, "not G1(N0, N0);": 2, "not G0(\nN1, N0);": 3, "and G0(N0, N0, N1\n, N1);": 3, "not G0(N0, N0\n, N0);": 3, "dff0 D1": 2, "dff0 G0": 2, "and D0": 2, "assign\nb[0] = N0;": 3, "assign N0 =\nb[0];": 3, "assign N0 = a[1]; assign N1 = 1'b0; endmodule\n;": 3,
	} {
		refused(t, one+s, api.ErrForm, line)
	}
	want := api.Net{Nodes: []api.Node{probe.Input(), probe.Input()}, Ins: []api.Port{probe.Port("a", 1, 0)}}
	parses(t, one+"assign N0 = a[1]; assign N1 = a[0]; endmodule", want, "m")
	// A bit that no node is told of.
	refused(t, one+"assign N0 = a[1]; assign N1 = 1'b0; endmodule", api.ErrForm, 0)
	refused(t, head(", a", "input [262143:0] a;", "endmodule"), api.ErrForm, 0)
	for _, k := range []string{"262144", "262145", "9999999", "1'b0", "N0", "a", "]"} {
		refused(t, head(", a", "input\n["+k+":0] a;"), api.ErrForm, 2)
		refused(t, head(", a", "output\n["+k+":0] a;"), api.ErrForm, 2)
	}
	for _, zero := range []string{"1", "1'b0", "00000000", "N0", "262143"} {
		refused(t, head(", a", "output [5:\n"+zero+"] a;"), api.ErrForm, 2)
	}
	// Though there are no wires, a bit may be assigned: the wire's name is wrong.
	refused(t, head(", z", "output [0:0] z; assign z[0] =\nN0; endmodule"), api.ErrForm, 2)
	refused(t, head(", z", "output [1:0] z; wire N0; assign N0 = 1'b1; assign z[0] = N0; assign z[\n0] = N0;"), api.ErrForm, 2)
	refused(t, head(", z", "output [1:0] z; wire N0; assign N0 = 1'b1; assign z[0] = N0;\nendmodule"), api.ErrForm, 2)
	refused(t, head(", z", "output [0:0] z; wire N0; assign N0 = 1'b1; assign z[0] = N0;\nassign z[1] = N0; endmodule"), api.ErrForm, 2)
}

// Names that are none, ports out of their order, and behind those that go out one that comes in.
func TestPorts(t *testing.T) {
	for _, name := range []string{"M", "_m", "N0", "module", "endmodule", "input", "output", "wire", "assign", "clk", "rst", strings.Repeat("m", 21), "mM", "1", "1'b0", ","} {
		refused(t, "module\n"+name+"(clk, rst); input clk; input rst; endmodule", api.ErrForm, 2)
		refused(t, head(",\n"+name, "input [0:0] "+name+"; endmodule"), api.ErrForm, 2)
	}
	refused(t, head(", a, b", "input [0:0] a; input [0:0]\na;"), api.ErrForm, 2)
	refused(t, head(", a, b", "input [0:0]\nb;"), api.ErrForm, 2)
	refused(t, head(", a, b", "output [0:0] a;\ninput [0:0] b;"), api.ErrForm, 2)
	refused(t, head(", a, b", "output [0:0] a;\nwire N0;"), api.ErrForm, 2)
	refused(t, head(", a", "input [0:0] a;\ninput [0:0] a;"), api.ErrForm, 2)
	refused(t, head(", a", "input [0:0] a;\noutput [0:0] z;"), api.ErrForm, 2)
	refused(t, head("", "\ninput [0:0] a;"), api.ErrForm, 2)
	// What goes out doesn't come in.
	refused(t, head(", z", "output [0:0] z; wire N0; assign N0 =\nz[0]; assign z[0] = N0; endmodule"), api.ErrForm, 2)
}

// Ports of the same name. Of those that come in the first one is meant, so that the second one's bits are told nowhere; of those that go out each one itself.
func TestSameName(t *testing.T) {
	two := head(", a, a", "input [0:0] a; input [1:0] a; wire N0; wire N1;\n")
	refused(t, two+"assign N0 = a[\n1];", api.ErrForm, 3)
	refused(t, two+"assign N0 = a[0]; assign N1 = a[\n0];", api.ErrForm, 3)
	refused(t, two+"assign N0 = a[0]; assign N1 = 1'b0; endmodule", api.ErrForm, 0)
	wider := head(", a, a", "input [1:0] a; input [0:0] a; wire N0; wire N1; assign N0 = a[1]; assign N1 = a[0];\n")
	refused(t, wider+"endmodule", api.ErrForm, 0)
	both := head(", a, a", "input [0:0] a; output [1:0] a; wire N0; assign N0 = a[0]; assign a[0] = N0;\n")
	refused(t, both+"assign a[1] = N0; endmodule", api.ErrTwice, 0)
	refused(t, both+"endmodule", api.ErrForm, 2)
	narrow := head(", a, a", "input [1:0] a; output [0:0] a; wire N0; wire N1; assign N0 = a[1]; assign N1 = a[0]; assign a[0] = N0;\n")
	refused(t, narrow+"endmodule", api.ErrTwice, 0)
	refused(t, narrow+"assign a[1] = N0; endmodule", api.ErrForm, 2)
	goes := head(", z, z", "output [1:0] z; output [0:0] z; wire N0; assign N0 = 1'b1; assign z[0] = N0; assign z[1] = N0; assign z[0] = N0;\n")
	refused(t, goes+"endmodule", api.ErrTwice, 0)
	refused(t, goes+"assign z[1] = N0; endmodule", api.ErrForm, 2)
}

// net.Check's errors of what is read, without a line.
func TestNetsThatMayNotBe(t *testing.T) {
	refused(t, head(", z", "output [0:0] z; wire N0; not G0(N0, N0); assign z[0] = N0; endmodule"), api.ErrRing, 0)
	refused(t, head("", "wire N0; wire N1; and G0(N0, N1, N1); assign N1 = N0 ? N0 : N1; endmodule"), api.ErrRing, 0)
	parses(t, head("", "wire N0; dff1 D0(clk, rst, N0, N0); endmodule"), api.Net{Nodes: []api.Node{probe.Dff(0, 1)}}, "m")
	// Of several the first one.
	refused(t, head(", z, z", "output [0:0] z; output [0:0] z; wire N0; not G0(N0, N0); assign z[0] = N0; assign z[0] = N0; endmodule"), api.ErrTwice, 0)
	refused(t, head(", a, z, z", "input [0:0] a; output [0:0] z; output [0:0] z; wire N0; not G0(N0, N0); assign z[0] = N0; assign z[0] = N0; endmodule"), api.ErrForm, 0)
}

// As many ports as may be, and one more: then the next name is wrong.
func TestMostPorts(t *testing.T) {
	n := api.Net{Nodes: []api.Node{probe.One(1)}}
	names := ""
	for i := range 64 {
		n.Outs = append(n.Outs, probe.Port(fmt.Sprint("p", i), 0))
		names += fmt.Sprint(", p", i)
	}
	parses(t, written(t, n, "m"), n, "m")
	refused(t, head(names+"\n,\nq\n)"), api.ErrForm, 3)
	refused(t, head(names+"\n,\n)"), api.ErrForm, 3)
	refused(t, "module m(clk, rst"+names+"\n,", api.ErrForm, 2)
	refused(t, head(names, "input [0:0] p0;\nwire N0;"), api.ErrForm, 2)
}

// As many wires as may be, and one more: then the next `wire` is wrong. As many bits of a port as may be, too.
func TestMostNodes(t *testing.T) {
	n := probe.Of(slices.Repeat([]api.Node{probe.Input()}, api.MostNodes)...)
	n.Outs = append(n.Outs, probe.Port("y", n.Ins[0].Bits...))
	s := written(t, n, "m")
	parses(t, s, n, "m")
	last := fmt.Sprintf("wire N%d;\n", api.MostNodes-1)
	refused(t, strings.Replace(s, last, last+"\n"+fmt.Sprintf("wire N%d;\n", api.MostNodes), 1), api.ErrForm, 1+strings.Count(s[:strings.Index(s, last)+len(last)], "\n")+1)
	refused(t, strings.Replace(s, last, "", 1), api.ErrForm, strings.Count(s[:strings.Index(s, fmt.Sprintf("assign N%d =", api.MostNodes-1))], "\n"))
}

// P26.2

// A net comes back from its text: nets of each kind and of no rule, and a unit.
func TestBack(t *testing.T) {
	r := probe.NewRule(263)
	for range 300 {
		n := r.Net(r.Below(20), r.Below(8), 1+r.Below(80))
		name := strings.Repeat("m", 1+r.Below(20))
		parses(t, written(t, n, name), n, name)
	}
	for _, n := range []api.Net{{}, probe.Ordinary(), probe.Line(1000), probe.Ahead(1000), probe.Ahead(api.MostNodes - 1)} {
		parses(t, written(t, n, "m"), n, "m")
	}
	for _, c := range []gen.Config{{Bits: 16, Op: gen.Sum, Depth: 3, Switches: 7}, {Bits: 32, Op: gen.Both, Depth: 1, Switches: 4}} {
		n, _, e := gen.Generate(c)
		if e != api.OK {
			t.Fatal(e)
		}
		parses(t, written(t, n, "unit"), n, "unit")
	}
}

// again holds that a text is read, or an error is told, the same each time; that what is read, written and read again is the same; that beside an error nothing is told.
func again(t *testing.T, s string) bool {
	t.Helper()
	n, name, line, e := vread.Parse(s)
	m, other, at, wrong := vread.Parse(s)
	if !probe.Same(n, m) || name != other || line != at || e != wrong {
		t.Fatalf("read again it is another net, or error, of:\n%s", s)
	}
	if e == api.OK {
		parses(t, written(t, n, name), n, name)
		return true
	}
	refused(t, s, e, line)
	if most := strings.Count(s, "\n") + 1; line < 0 || line > most || line == 0 && e != api.ErrForm && e != api.ErrTwice && e != api.ErrRing {
		t.Fatalf("line %d, %d, of:\n%s", line, e, s)
	}
	return false
}

// Any texts whatever: bytes of no rule, and texts of nets in which some bytes, or tokens, are others.
func TestAnyTexts(t *testing.T) {
	r := probe.NewRule(264)
	for range 3000 {
		var s []byte
		for range r.Below(40) {
			s = append(s, byte(r.Below(256)))
		}
		again(t, string(s))
	}
	read := 0
	for i := range 6000 {
		n := small()[i%len(small())]
		l := texts(textOf(n, "m"))
		tokens := pool(n)
		for range r.Below(4) {
			k := r.Below(len(l))
			switch r.Below(3) {
			case 0:
				l[k] = tokens[r.Below(len(tokens))]
			case 1:
				l[k] = l[r.Below(len(l))]
			case 2:
				l = slices.Insert(l, k, l[r.Below(len(l))])
			}
		}
		s := []byte(strings.Join(l, "\n"))
		if r.Below(3) == 0 {
			s[r.Below(len(s))] = byte(r.Below(128))
		}
		if again(t, string(s)) {
			read++
		}
	}
	if read < 600 {
		t.Errorf("%d texts were read", read)
	}
	var all []string
	for range 2000 {
		all = append(all, pool(api.Net{})[r.Below(len(pool(api.Net{})))])
		again(t, strings.Join(all[max(0, len(all)-30):], " "))
	}
}

// Long texts, of many tokens and of few.
func TestLongTexts(t *testing.T) {
	again(t, strings.Repeat("(", 1<<20))
	again(t, strings.Repeat("module ", 1<<18))
	refused(t, strings.Repeat("\n", 1<<20)+"module", api.ErrForm, 1<<20+1)
	refused(t, head("", strings.Repeat("\n", 1000)+"wire"), api.ErrForm, 1001)
	if tokens, _, e := vlex.Lex(head("")); e != api.OK || len(tokens) != 14 {
		t.Errorf("%d tokens, %d", len(tokens), e)
	}
}

package gen_test

import (
	"math"
	"slices"
	"testing"

	"slipstick/api"
	"slipstick/gen"
	"slipstick/net"
	"slipstick/opt"
	"slipstick/probe"
	"slipstick/retime"
)

// P23.1

// The chapter's example.
func TestExample(t *testing.T) {
	n, e := gen.Plain(gen.Config{Bits: 16, Op: gen.Sum})
	var names []string
	for _, p := range slices.Concat(n.Ins, n.Outs) {
		names = append(names, p.Name)
	}
	if e != api.OK || !slices.Equal(names, []string{"valid", "mode", "sub", "a", "b", "ready", "z", "flags"}) {
		t.Errorf("%v, %d", names, e)
	}
	if gen.Sum != 0 || gen.Product != 1 || gen.Both != 2 || gen.MostDepth != 16 {
		t.Error("other numbers")
	}
}

// may tells by the document's words whether a configuration may be.
func may(c gen.Config) bool {
	return slices.Contains(allBits, c.Bits) && slices.Contains(ops, c.Op) && 0 <= c.Depth && c.Depth <= 16 && 0 <= c.Switches && c.Switches <= 7
}

// mayNot holds what is told of a configuration that may not be.
func mayNot(t *testing.T, c gen.Config) {
	t.Helper()
	n, e := gen.Plain(c)
	m, delay, wrong := gen.Generate(c)
	if e != api.ErrArg || wrong != api.ErrArg || delay != 0 || !probe.Same(n, api.Net{}) || !probe.Same(m, api.Net{}) {
		t.Errorf("%v: Plain %d, Generate %d, %d", c, e, delay, wrong)
	}
}

// Each part at its edges, and beyond them.
func TestMay(t *testing.T) {
	far := []int{math.MinInt, -1 << 32, -16, -1, 1 << 8, 1 << 32, math.MaxInt}
	for _, bits := range append(far, 0, 1, 8, 15, 16, 17, 24, 31, 32, 33, 63, 64, 65, 128) {
		for _, op := range append(far, 0, 1, 2, 3) {
			for _, depth := range append(far, 0, 1, 15, 16, 17, 64) {
				for _, switches := range append(far, 0, 1, 6, 7, 8) {
					c := gen.Config{Bits: bits, Op: op, Depth: depth, Switches: switches}
					if gen.May(c) != may(c) {
						t.Errorf("May of %v: %v", c, gen.May(c))
					}
					if !may(c) {
						mayNot(t, c)
					}
				}
			}
		}
	}
}

// A plain net may be, has no Dff, has the documented ports, and is one and the same at each depth and choice of switches.
func TestPlain(t *testing.T) {
	for _, bits := range allBits {
		for _, op := range ops {
			c := gen.Config{Bits: bits, Op: op}
			n, e := gen.Plain(c)
			if e != api.OK || net.Check(n) != api.OK || net.Counts(n)[api.Dff] > 0 {
				t.Fatalf("%v: %d, %d, %v", c, e, net.Check(n), net.Counts(n))
			}
			if !arePorts(n.Ins, comes(c)) || !arePorts(n.Outs, goes(c)) {
				t.Errorf("%v: other ports: %s", c, probe.Show(n))
			}
			if !slices.Equal(n.Outs[0].Bits, n.Ins[0].Bits) {
				t.Errorf("%v: ready isn't valid", c)
			}
			for _, depth := range []int{0, 1, 16} {
				for switches := range 8 {
					m, e := gen.Plain(gen.Config{Bits: bits, Op: op, Depth: depth, Switches: switches})
					if e != api.OK || !probe.Same(n, m) {
						t.Errorf("%v, depth %d, switches %d: another net, %d", c, depth, switches, e)
					}
				}
			}
		}
	}
}

// What is told is Plain's net, optimised and retimed, and the depth: of 16 bits at each depth, by each choice of switches; and the same again.
func TestGenerate(t *testing.T) {
	for _, bits := range allBits {
		for _, op := range ops {
			for depth := range 17 {
				for switches := range 8 {
					if bits > 16 && (depth+switches+op)%19 > 0 {
						continue
					}
					c := gen.Config{Bits: bits, Op: op, Depth: depth, Switches: switches}
					n, _ := gen.Plain(c)
					m, _, _ := opt.Optimise(n, switches)
					want, e := retime.Retime(m, depth)
					got, delay, wrong := gen.Generate(c)
					if e != api.OK || wrong != api.OK || delay != depth || !probe.Same(got, want) {
						t.Errorf("%v: %d, %d, %d", c, delay, e, wrong)
					}
					again, _, _ := gen.Generate(c)
					probe.Scribble(got)
					if !probe.Same(again, want) {
						t.Errorf("%v: again it is another net", c)
					}
				}
			}
		}
	}
}

// P23.2

// Scripts of cycles of each operation, at several depths, by several choices of switches.
func TestRuns(t *testing.T) {
	for _, op := range ops {
		for _, depth := range []int{0, 1, 2, 5, 16} {
			for switches := range 8 {
				runs(t, gen.Config{Bits: 16, Op: op, Depth: depth, Switches: switches}, 60+2*depth)
			}
		}
		for _, bits := range []int{32, 64} {
			for _, depth := range []int{0, 3, 16} {
				for _, switches := range []int{0, opt.Folds | opt.Sweeps, opt.All} {
					runs(t, gen.Config{Bits: bits, Op: op, Depth: depth, Switches: switches}, 30+2*depth)
				}
			}
		}
	}
}

// A long script of each operation of 16 bits.
func TestLongRuns(t *testing.T) {
	for _, op := range ops {
		runs(t, gen.Config{Bits: 16, Op: op, Depth: 4, Switches: opt.All}, 1500)
	}
}

// Ports, registers on each way, and levels.
func TestShape(t *testing.T) {
	for _, op := range ops {
		for depth := range 17 {
			shaped(t, gen.Config{Bits: 16, Op: op, Depth: depth, Switches: opt.All})
			shaped(t, gen.Config{Bits: 16, Op: op, Depth: depth, Switches: depth % 8})
		}
		for _, bits := range []int{32, 64} {
			for _, depth := range []int{0, 1, 7, 16} {
				for _, switches := range []int{0, opt.Shares, opt.All} {
					shaped(t, gen.Config{Bits: bits, Op: op, Depth: depth, Switches: switches})
				}
			}
		}
	}
}

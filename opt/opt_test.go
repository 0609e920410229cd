package opt_test

import (
	"math"
	"testing"

	"slipstick/api"
	"slipstick/fold"
	"slipstick/net"
	"slipstick/opt"
	"slipstick/probe"
	"slipstick/share"
	"slipstick/sweep"
)

var one, input, not, and, or, xor, mux, dff, port, of, show = probe.One, probe.Input, probe.Not, probe.And, probe.Or, probe.Xor, probe.Mux, probe.Dff, probe.Port, probe.Of, probe.Show

// optimises is Optimise of what may be.
func optimises(t *testing.T, n api.Net, switches int) (api.Net, opt.Report) {
	t.Helper()
	m, report, e := opt.Optimise(n, switches)
	if e != api.OK {
		t.Fatalf("Optimise of %s, %d: %d", show(n), switches, e)
	}
	return m, report
}

// wanted is what a net is behind all rounds, and the report: all nets, the given one first, are laid down, and those of the last two rounds compared.
func wanted(n api.Net, switches int) (api.Net, opt.Report) {
	nets, report := []api.Net{n}, opt.Report{}
	for {
		m, many := nets[len(nets)-1], 0
		if switches%2 == 1 {
			m, many, _ = fold.Fold(m)
			report.Folded += many
		}
		if switches/2%2 == 1 {
			m, many, _ = share.Share(m)
			report.Shared += many
		}
		if switches/4 == 1 {
			m, many, _ = sweep.Sweep(m)
			report.Swept += many
		}
		nets = append(nets, m)
		report.Rounds = len(nets) - 1
		if report.Rounds == 12 || probe.Same(m, nets[len(nets)-2]) {
			return m, report
		}
	}
}

// check holds all that is told of a net that may be, of each subset of the switches, against the document.
func check(t *testing.T, n api.Net) {
	t.Helper()
	for switches := range 8 {
		want, done := wanted(n, switches)
		m, report := optimises(t, n, switches)
		if !net.Same(m, want) || report != done {
			t.Fatalf("Optimise of %s, %d: %s, %v; want %s, %v", show(n), switches, show(m), report, show(want), done)
		}
		follows(t, n, m, switches)
		if again, more := optimises(t, m, switches); report.Rounds < 12 && (!net.Same(again, m) || more.Rounds != 1) {
			t.Fatalf("Optimise of %s, %d, again: %s, %v", show(n), switches, show(again), more)
		}
	}
}

// follows holds P12.2 of a net, and of it optimised.
func follows(t *testing.T, n, m api.Net, switches int) {
	t.Helper()
	if e := net.Check(m); e != api.OK {
		t.Fatalf("Optimise of %s, %d, may not be: %s: %d", show(n), switches, show(m), e)
	}
	if fault := probe.Differs(n, m, probe.NewRule(uint64(switches)).Script(n, 12)); fault != "" {
		t.Fatalf("Optimise of %s, %d: %s: %s", show(n), switches, show(m), fault)
	}
}

// chained is a net of which each round but finds the next link: a gate folds once two Nots are one, which they are once the gate ahead has folded.
func chained(links int) api.Net {
	nodes := []api.Node{input(), not(0), not(0), xor(1, 2)}
	for range links {
		last := len(nodes) - 1
		nodes = append(nodes, or(last, 0), not(last+1), xor(last+2, 1))
	}
	return of(nodes...)
}

// P12.1

// The chapter's example, and what was done by each subset of the switches.
func TestExample(t *testing.T) {
	n := of(input(), one(0), not(1), and(0, 2))
	m, report := optimises(t, n, opt.All)
	want := of(input())
	if !net.Same(m, want) || report != (opt.Report{Rounds: 2, Folded: 2, Swept: 3}) {
		t.Errorf("%s, %v", show(m), report)
	}
	out := func(n api.Net, place int) api.Net {
		n.Outs[0].Bits[0] = place
		return n
	}
	for switches, c := range []struct {
		want   api.Net
		report opt.Report
	}{
		{n, opt.Report{Rounds: 1}},
		// Round 2 tells again that the input stands for the And.
		{out(of(input(), one(0), one(1), and(0, 2)), 0), opt.Report{Rounds: 2, Folded: 3}},
		{n, opt.Report{Rounds: 1}},
		{out(of(input(), one(0), one(1), and(0, 2)), 0), opt.Report{Rounds: 2, Folded: 3}},
		{n, opt.Report{Rounds: 1}},
		{of(input()), opt.Report{Rounds: 2, Folded: 2, Swept: 3}},
		{n, opt.Report{Rounds: 1}},
		{of(input()), opt.Report{Rounds: 2, Folded: 2, Swept: 3}},
	} {
		if m, report := optimises(t, n, switches); !net.Same(m, c.want) || report != c.report {
			t.Errorf("%d: %s, %v", switches, show(m), report)
		}
	}
}

func TestSwitches(t *testing.T) {
	if opt.Folds != 1 || opt.Shares != 2 || opt.Sweeps != 4 || opt.All != 7 {
		t.Error("other switches")
	}
	// Two Ands that are one, and one beside them that nothing hangs on.
	n := of(input(), input(), and(0, 1), and(1, 0), not(0), mux(2, 3, 0))
	for switches, c := range []opt.Report{
		{Rounds: 1}, {Rounds: 1},
		{Rounds: 2, Shared: 2},
		// Round 2 folds the Mux, for which the And stands.
		{Rounds: 3, Folded: 2, Shared: 3},
		{Rounds: 2, Swept: 1},
		{Rounds: 2, Swept: 1},
		{Rounds: 2, Shared: 1, Swept: 2},
		{Rounds: 3, Folded: 1, Shared: 1, Swept: 3},
	} {
		if _, report := optimises(t, n, switches); report != c {
			t.Errorf("%d: %v, want %v", switches, report, c)
		}
	}
	m, _ := optimises(t, n, opt.All)
	if want := of(input(), input(), and(0, 1)); !net.Same(m, want) {
		t.Errorf("%s", show(m))
	}
	check(t, n)
}

// Wrong switches go ahead of what is wrong with the net.
func TestWrongSwitches(t *testing.T) {
	for _, n := range append(probe.Wrong(), probe.Ordinary(), api.Net{}) {
		for _, switches := range []int{-1, 8, 9, -8, 15, 1 << 32, math.MaxInt, math.MinInt} {
			if m, report, e := opt.Optimise(n, switches); e != api.ErrArg || report != (opt.Report{}) || !net.Same(m, api.Net{}) {
				t.Errorf("Optimise of %s, %d: %s, %v, %d", show(n), switches, show(m), report, e)
			}
		}
	}
}

// Each error of nets that may not be, by each subset of the switches.
func TestNetsThatMayNotBe(t *testing.T) {
	for i, n := range append(probe.Wrong(), probe.Ring(1), probe.Ring(1000)) {
		want := append(probe.Errors(), api.ErrRing, api.ErrRing)[i]
		for switches := range 8 {
			if m, report, e := opt.Optimise(n, switches); e != want || report != (opt.Report{}) || !net.Same(m, api.Net{}) {
				t.Errorf("Optimise of %s, %d: %s, %v, %d, want %d", show(n), switches, show(m), report, e, want)
			}
		}
	}
}

// When the rounds end: with the one that changes nothing, or with the twelfth.
func TestRounds(t *testing.T) {
	for links := range 15 {
		n := chained(links)
		m, report := optimises(t, n, opt.All)
		// A round for the first link, one for each other one, one in which the last one folds, and one that changes nothing.
		if want := min(links+3, 12); report.Rounds != want {
			t.Errorf("%d links: %v, want %d rounds", links, report, want)
		}
		done := net.Same(m, api.Net{Nodes: []api.Node{input(), one(0)}, Ins: n.Ins, Outs: []api.Port{port("z", 1)}})
		if done != (links <= 10) {
			t.Errorf("%d links: %s", links, show(m))
		}
		if again, more := optimises(t, m, opt.All); done != (more.Rounds == 1) || done != net.Same(m, again) {
			t.Errorf("%d links, again: %s, %v", links, show(again), more)
		}
		check(t, n)
	}
}

func TestNetsWrittenOut(t *testing.T) {
	for _, n := range []api.Net{
		{}, of(input()), of(one(1)), of(dff(0, 1)), {Nodes: []api.Node{one(0), dff(1, 0)}}, probe.Ordinary(), probe.Line(20), probe.Ahead(21),
		of(input(), dff(2, 1), xor(1, 3), one(0), dff(2, 1), not(0), not(5), mux(6, 0, 4)),
		of(not(1), one(1), or(0, 3), input(), dff(2, 0), and(4, 2), and(2, 4), xor(5, 6)),
	} {
		check(t, n)
	}
}

func TestMixedNets(t *testing.T) {
	r := probe.NewRule(12)
	for i := range 400 {
		check(t, r.Net(r.Below(4), r.Below(5), 1+r.Below(60)))
		if i%20 == 0 {
			check(t, r.Net(8, 8, 400))
		}
	}
}

// As many nodes as may be.
func TestDeepNets(t *testing.T) {
	m, report := optimises(t, probe.Line(api.MostNodes-1), opt.All)
	// The Input stands for each second Not, and of the others the first one for all; of those that are left in their places the first one, too.
	if want := (opt.Report{Rounds: 2, Folded: api.MostNodes/2 - 1, Shared: api.MostNodes - 3, Swept: api.MostNodes - 2}); !net.Same(m, of(input(), not(0))) || report != want {
		t.Errorf("Optimise of a line: %s, %v, want %v", show(m), report, want)
	}
}

// R3 and R4: the given net reads afterwards as before, what is told is the caller's to change, and told again.
func TestNetsStay(t *testing.T) {
	r := probe.NewRule(123)
	for range 100 {
		n := r.Net(1+r.Below(5), r.Below(6), 1+r.Below(40))
		for switches := range 8 {
			if !probe.Apart(n, func(n api.Net) api.Net {
				m, _, _ := opt.Optimise(n, switches)
				return m
			}) {
				t.Fatalf("Optimise of %s, %d, changes it, or shares with it", show(n), switches)
			}
		}
	}
}

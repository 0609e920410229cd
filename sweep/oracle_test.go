package sweep_test

import (
	"slices"
	"testing"

	"slipstick/api"
	"slipstick/net"
	"slipstick/probe"
	"slipstick/sweep"
)

var one, input, not, and, or, xor, mux, dff, port, of, show = probe.One, probe.Input, probe.Not, probe.And, probe.Or, probe.Xor, probe.Mux, probe.Dff, probe.Port, probe.Of, probe.Show

// spread goes through all nodes till no more is laid to those that are: what one of those uses.
func spread(nodes []api.Node, is []bool) []bool {
	for more := true; more; {
		more = false
		for at := range nodes {
			for _, place := range probe.Uses(&nodes[at]) {
				if is[at] && !is[*place] {
					is[*place], more = true, true
				}
			}
		}
	}
	return is
}

// counting is what counts.
func counting(n api.Net) []bool {
	is := make([]bool, len(n.Nodes))
	for at, x := range n.Nodes {
		is[at] = x.Kind == api.Input
	}
	for _, p := range n.Outs {
		for _, place := range p.Bits {
			is[place] = true
		}
	}
	return spread(n.Nodes, is)
}

// without is a net without one node: places beyond it are one less.
func without(n api.Net, gone int) api.Net {
	m := probe.Clone(n)
	m.Nodes = slices.Delete(m.Nodes, gone, gone+1)
	var all []*int
	for at := range m.Nodes {
		all = append(all, probe.Uses(&m.Nodes[at])...)
	}
	for _, p := range slices.Concat(m.Ins, m.Outs) {
		for k := range p.Bits {
			all = append(all, &p.Bits[k])
		}
	}
	for _, place := range all {
		if *place > gone {
			*place--
		}
	}
	return m
}

// wanted is the swept net, the nodes left out one by one, from the last one on.
func wanted(n api.Net) (api.Net, int) {
	m, many := probe.Clone(n), 0
	for at, counts := range slices.Backward(counting(n)) {
		if !counts {
			m = without(m, at)
			many++
		}
	}
	return m, many
}

// sweeps is Sweep of a net that may be.
func sweeps(t *testing.T, n api.Net) (api.Net, int) {
	t.Helper()
	m, many, e := sweep.Sweep(n)
	if e != api.OK {
		t.Fatalf("Sweep of %s: %d", show(n), e)
	}
	return m, many
}

// check holds all that is told of a net that may be against the oracle, and P11.3.
func check(t *testing.T, n api.Net) {
	t.Helper()
	if counts, e := sweep.Count(n); e != api.OK || !slices.Equal(counts, counting(n)) {
		t.Fatalf("Count of %s: %v, %d; want %v", show(n), counts, e, counting(n))
	}
	want, times := wanted(n)
	m, many := sweeps(t, n)
	if !net.Same(m, want) || many != times {
		t.Fatalf("Sweep of %s: %s, %d; want %s, %d", show(n), show(m), many, show(want), times)
	}
	if e := net.Check(m); e != api.OK {
		t.Fatalf("Sweep of %s may not be: %s, %d", show(n), show(m), e)
	}
	if fault := probe.Differs(n, m, probe.NewRule(uint64(len(n.Nodes))).Script(n, 12)); fault != "" {
		t.Fatalf("Sweep of %s: %s: %s", show(n), show(m), fault)
	}
	if again, more := sweeps(t, m); !net.Same(again, m) || more != 0 {
		t.Fatalf("Sweep of %s, swept again: %s, then %s, %d", show(n), show(m), show(again), more)
	}
}

// cones holds Cone of each place of a net against the oracle.
func cones(t *testing.T, n api.Net) {
	t.Helper()
	for at := range n.Nodes {
		is := make([]bool, len(n.Nodes))
		is[at] = true
		var want []int
		for place, hangs := range spread(n.Nodes, is) {
			if hangs {
				want = append(want, place)
			}
		}
		if cone, e := sweep.Cone(n, at); e != api.OK || !slices.Equal(cone, want) {
			t.Fatalf("Cone of %s, %d: %v, %d; want %v", show(n), at, cone, e, want)
		}
	}
}

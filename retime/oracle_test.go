package retime_test

import (
	"slices"
	"testing"

	"slipstick/api"
	"slipstick/net"
	"slipstick/probe"
	"slipstick/retime"
)

var one, input, not, and, or, xor, mux, dff, port, of, show = probe.One, probe.Input, probe.Not, probe.And, probe.Or, probe.Xor, probe.Mux, probe.Dff, probe.Port, probe.Of, probe.Show

// rising are the levels, found by going through the nodes till none changes.
func rising(nodes []api.Node) []int {
	levels := make([]int, len(nodes))
	for more := true; more; {
		more = false
		for at := range nodes {
			for _, place := range probe.Uses(&nodes[at]) {
				if nodes[at].Kind != api.Dff && levels[at] <= levels[*place] {
					levels[at], more = levels[*place]+1, true
				}
			}
		}
	}
	return levels
}

// staged are the stages, and Cut, by going up from 1.
func staged(n api.Net, d int) ([]int, int) {
	levels := rising(n.Nodes)
	cut := 1
	for cut*(d+1) < slices.Max(append(levels, 0)) {
		cut++
	}
	stages := make([]int, len(levels))
	for at, level := range levels {
		for level > cut {
			level -= cut
			stages[at]++
		}
	}
	return stages, cut
}

// use is where a node is used, and of which stage that is.
type use struct {
	at    *int
	stage int
}

// wanted is a net retimed: node by node, its uses are laid behind one Dff more, as long as there is one of a later stage.
func wanted(n api.Net, d int) api.Net {
	m := probe.Clone(n)
	stages, _ := staged(n, d)
	uses := map[int][]use{}
	for at := range m.Nodes {
		for _, place := range probe.Uses(&m.Nodes[at]) {
			uses[*place] = append(uses[*place], use{place, stages[at]})
		}
	}
	for _, p := range m.Outs {
		for k := range p.Bits {
			uses[p.Bits[k]] = append(uses[p.Bits[k]], use{&p.Bits[k], d})
		}
	}
	var regs []api.Node
	for place, stage := range stages {
		if m.Nodes[place].Kind == api.Const {
			continue
		}
		behind := place
		for {
			stage++
			later := slices.DeleteFunc(slices.Clone(uses[place]), func(u use) bool { return u.stage < stage })
			if len(later) == 0 {
				break
			}
			regs = append(regs, dff(behind, 0))
			behind = len(stages) + len(regs) - 1
			for _, u := range later {
				*u.at = behind
			}
		}
	}
	m.Nodes = append(m.Nodes, regs...)
	return m
}

// retimes is Retime of what may be retimed.
func retimes(t *testing.T, n api.Net, d int) api.Net {
	t.Helper()
	m, e := retime.Retime(n, d)
	if e != api.OK {
		t.Fatalf("Retime of %s, %d: %d", show(n), d, e)
	}
	return m
}

// check holds all that is told of a plain net against the oracle, and P13.3.
func check(t *testing.T, n api.Net, d int) {
	t.Helper()
	stages, cut := staged(n, d)
	if got, c, e := retime.Stages(n, d); e != api.OK || c != cut || !slices.Equal(got, stages) {
		t.Fatalf("Stages of %s, %d: %v, %d, %d; want %v, %d", show(n), d, got, c, e, stages, cut)
	}
	m, want := retimes(t, n, d), wanted(n, d)
	if !net.Same(m, want) {
		t.Fatalf("Retime of %s, %d: %s; want %s", show(n), d, show(m), show(want))
	}
	follows(t, n, m, d, cut)
}

// follows holds P13.3 of a net, and of it retimed.
func follows(t *testing.T, n, m api.Net, d, cut int) {
	t.Helper()
	if e := net.Check(m); e != api.OK {
		t.Fatalf("Retime of %s, %d, may not be: %s, %d", show(n), d, show(m), e)
	}
	if most := slices.Max(append(rising(m.Nodes), 0)); most > cut {
		t.Fatalf("Retime of %s, %d: %s: level %d above %d", show(n), d, show(m), most, cut)
	}
	script := probe.NewRule(uint64(d)).Script(n, d+8)
	told, late := probe.Told(n, script), probe.Told(m, script)
	for i, outs := range late[d:] {
		if !slices.EqualFunc(outs, told[i], slices.Equal[[]int]) {
			t.Fatalf("Retime of %s, %d: %s: cycle %d: %v, want %v", show(n), d, show(m), i+d, outs, told[i])
		}
	}
	delay, some, one := delays(m)
	if got, e := retime.Delay(m); e != api.OK || got != delay || some && got != d || !one {
		t.Fatalf("Delay of %s, retimed by %d, %s: %d, %d; want %d", show(n), d, show(m), got, e, delay)
	}
}

// walker goes all ways back from a place to Inputs, and counts the Dffs on each.
type walker struct {
	nodes []api.Node
	on    []bool // the places on the way
	ring  bool
	found map[int]bool
}

func (w *walker) walk(at, dffs int) {
	if w.on[at] {
		w.ring = true
		return
	}
	w.on[at] = true
	x := w.nodes[at]
	switch x.Kind {
	case api.Input:
		w.found[dffs] = true
	case api.Dff:
		dffs++
	}
	for _, place := range probe.Uses(&x) {
		w.walk(*place, dffs)
	}
	w.on[at] = false
}

// delays are a net's delay, whether there is a way, and whether all have one delay.
func delays(n api.Net) (delay int, some, one bool) {
	w := &walker{nodes: n.Nodes, on: make([]bool, len(n.Nodes)), found: map[int]bool{}}
	for _, p := range n.Outs {
		for _, place := range p.Bits {
			w.walk(place, 0)
		}
	}
	for dffs := range w.found {
		delay = dffs
	}
	return delay, len(w.found) > 0, len(w.found) <= 1
}

// rings tells whether a place leads back to itself, over Dffs too.
func rings(n api.Net) bool {
	w := &walker{nodes: n.Nodes, on: make([]bool, len(n.Nodes)), found: map[int]bool{}}
	for at := range n.Nodes {
		w.walk(at, 0)
	}
	return w.ring
}

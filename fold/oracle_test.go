package fold_test

import (
	"slices"
	"strings"
	"testing"

	"slipstick/api"
	"slipstick/fold"
	"slipstick/net"
	"slipstick/probe"
)

var one, input, not, and, or, xor, mux, dff, port, of, show = probe.One, probe.Input, probe.Not, probe.And, probe.Or, probe.Xor, probe.Mux, probe.Dff, probe.Port, probe.Of, probe.Show

// rule is a line of the document, of a kind: what holds, and what is done then. What holds is all of some words, parted by commas: a=0, a=1 (likewise b, c), a=b, turned (one is a Not of the other one), not (a is a Not). What is done is a letter (that one stands for it; x is what the Not a uses), or the kind it becomes, with its letters, or its value.
type rule struct {
	kind       int
	holds, act string
}

// rules are the document's lines, in their order.
func rules() []rule {
	return []rule{
		{api.Not, "a=0", "const 1"}, {api.Not, "a=1", "const 0"}, {api.Not, "not", "x"},
		{api.And, "a=0", "const 0"}, {api.And, "b=0", "const 0"}, {api.And, "a=1", "b"}, {api.And, "b=1", "a"}, {api.And, "a=b", "a"}, {api.And, "turned", "const 0"},
		{api.Or, "a=1", "const 1"}, {api.Or, "b=1", "const 1"}, {api.Or, "a=0", "b"}, {api.Or, "b=0", "a"}, {api.Or, "a=b", "a"}, {api.Or, "turned", "const 1"},
		{api.Xor, "a=b", "const 0"}, {api.Xor, "a=0", "b"}, {api.Xor, "b=0", "a"}, {api.Xor, "a=1", "not b"}, {api.Xor, "b=1", "not a"}, {api.Xor, "turned", "const 1"},
		{api.Mux, "c=0", "a"}, {api.Mux, "c=1", "b"}, {api.Mux, "a=b", "a"}, {api.Mux, "a=0,b=1", "c"}, {api.Mux, "a=1,b=0", "not c"}, {api.Mux, "a=0", "and bc"}, {api.Mux, "b=1", "or ac"},
	}
}

// reader folds a net by reading the rules, each node when it is asked for.
type reader struct {
	given, nodes []api.Node
	stands       []int
	rules        []rule
}

// letter is the place that a letter means, of a node.
func letter(x api.Node, c byte) int {
	return map[byte]int{'a': x.A, 'b': x.B, 'c': x.C}[c]
}

// isTurned tells whether a node is a Not of another one.
func (r *reader) isTurned(a, b int) bool {
	return r.nodes[a].Kind == api.Not && r.nodes[a].A == b
}

// holds tells whether one word holds of a node.
func (r *reader) holds(x api.Node, word string) bool {
	switch word {
	case "a=b":
		return x.A == x.B
	case "turned":
		return r.isTurned(x.A, x.B) || r.isTurned(x.B, x.A)
	case "not":
		return r.nodes[x.A].Kind == api.Not
	}
	used := r.nodes[letter(x, word[0])]
	return used.Kind == api.Const && used.A == int(word[2]-'0')
}

// became is the node of what is done.
func became(x api.Node, act string) api.Node {
	kind, rest, _ := strings.Cut(act, " ")
	switch kind {
	case "const":
		return one(int(rest[0] - '0'))
	case "not":
		return not(letter(x, rest[0]))
	case "and":
		return and(letter(x, rest[0]), letter(x, rest[1]))
	}
	return or(letter(x, rest[0]), letter(x, rest[1]))
}

// first is the first rule that holds of a node, if one does.
func (r *reader) first(x api.Node) (string, bool) {
	for _, l := range r.rules {
		all := true
		for word := range strings.SplitSeq(l.holds, ",") {
			all = all && l.kind == x.Kind && r.holds(x, word)
		}
		if all {
			return l.act, true
		}
	}
	return "", false
}

// stand is the place that stands for one.
func (r *reader) stand(at int) int {
	if r.stands[at] >= 0 {
		return r.stands[at]
	}
	x := r.given[at]
	r.stands[at] = at
	switch x.Kind {
	case api.Not:
		x = not(r.stand(x.A))
	case api.And, api.Or, api.Xor:
		x.A, x.B = r.stand(x.A), r.stand(x.B)
	case api.Mux:
		x = mux(r.stand(x.A), r.stand(x.B), r.stand(x.C))
	}
	for {
		act, some := r.first(x)
		r.nodes[at] = x
		if !some {
			return at
		}
		if act == "x" {
			r.stands[at] = r.nodes[x.A].A
			return r.stands[at]
		}
		if len(act) == 1 {
			r.stands[at] = letter(x, act[0])
			return r.stands[at]
		}
		x = became(x, act)
	}
}

// wanted is the folded net, of how many nodes another one stands or that became of another kind, and what stands.
func wanted(n api.Net) (api.Net, int, []int) {
	r := &reader{given: n.Nodes, nodes: slices.Clone(n.Nodes), stands: slices.Repeat([]int{-1}, len(n.Nodes)), rules: rules()}
	many := 0
	for at := range n.Nodes {
		if r.stand(at) != at || r.nodes[at].Kind != n.Nodes[at].Kind {
			many++
		}
	}
	for at, x := range r.nodes {
		if x.Kind == api.Dff {
			r.nodes[at].A = r.stands[x.A]
		}
	}
	m := probe.Clone(n)
	m.Nodes = r.nodes
	for _, p := range m.Outs {
		for k := range p.Bits {
			p.Bits[k] = r.stands[p.Bits[k]]
		}
	}
	return m, many, r.stands
}

// folds is Fold of a net that may be.
func folds(t *testing.T, n api.Net) (api.Net, int) {
	t.Helper()
	m, many, e := fold.Fold(n)
	if e != api.OK {
		t.Fatalf("Fold of %s: %d", show(n), e)
	}
	return m, many
}

// check holds all that is told of a net that may be against the oracle, and P9.2.
func check(t *testing.T, n api.Net) {
	t.Helper()
	want, times, places := wanted(n)
	m, many := folds(t, n)
	if !net.Same(m, want) || many != times {
		t.Fatalf("Fold of %s: %s, %d; want %s, %d", show(n), show(m), many, show(want), times)
	}
	if stands, e := fold.Stands(n); e != api.OK || !slices.Equal(stands, places) {
		t.Fatalf("Stands of %s: %v, %d; want %v", show(n), stands, e, places)
	}
	follows(t, n, m)
}

// follows holds P9.2 of a net, and of it folded.
func follows(t *testing.T, n, m api.Net) {
	t.Helper()
	if e := net.Check(m); e != api.OK {
		t.Fatalf("Fold of %s may not be: %s, %d", show(n), show(m), e)
	}
	if fault := probe.Differs(n, m, probe.NewRule(uint64(len(n.Nodes))).Script(n, 12)); fault != "" || len(n.Nodes) != len(m.Nodes) {
		t.Fatalf("Fold of %s: %s: %s", show(n), show(m), fault)
	}
	for at, needed := range probe.Needed(m) {
		x := m.Nodes[at]
		if !needed || x.Kind == api.Mux || x.Kind == api.Dff {
			continue
		}
		for _, place := range net.Uses(x) {
			if m.Nodes[place].Kind == api.Const {
				t.Fatalf("Fold of %s: %s: gate %d uses a Const", show(n), show(m), at)
			}
		}
	}
}

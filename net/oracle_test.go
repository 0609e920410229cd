package net_test

import (
	"regexp"
	"slices"
	"testing"

	"slipstick/api"
	"slipstick/net"
)

// What the document asks, worked out in other ways: kinds by a table, names by a pattern, levels by going through the nodes till none changes any more.

// kindUses is a table of how many of A, B and C a node of a kind uses.
func kindUses() map[int]int {
	return map[int]int{api.Const: 0, api.Input: 0, api.Not: 1, api.And: 2, api.Or: 2, api.Xor: 2, api.Mux: 3, api.Dff: 1}
}

// parts are a node's A, B and C.
func parts(x api.Node) []int { return []int{x.A, x.B, x.C} }

// formed tells whether a node, among so many, is as its kind asks.
func formed(x api.Node, many int) bool {
	uses, is := kindUses()[x.Kind]
	if !is {
		return false
	}
	for i, v := range parts(x) {
		most := 0
		switch {
		case i < uses:
			most = many - 1
		case x.Kind == api.Const && i == 0, x.Kind == api.Dff && i == 1:
			most = 1
		}
		if v < 0 || v > most {
			return false
		}
	}
	return true
}

// isName tells whether a text may be a name.
func isName(s string) bool {
	word := regexp.MustCompile(`\A(module|endmodule|input|output|wire|assign|clk|rst)\z`)
	return regexp.MustCompile(`\A[a-z][a-z0-9_]{0,19}\z`).MatchString(s) && !word.MatchString(s)
}

// bothWays are all ports.
func bothWays(n api.Net) []api.Port { return append(slices.Clone(n.Ins), n.Outs...) }

// asked is what Check is asked for, of a net that has no ring.
func asked(n api.Net) api.Errno {
	all := bothWays(n)
	if len(n.Nodes) > 262144 || len(all) > 64 {
		return api.ErrMany
	}
	for _, x := range n.Nodes {
		if !formed(x, len(n.Nodes)) {
			return api.ErrForm
		}
	}
	named := map[string]int{}
	names := api.OK
	for _, p := range all {
		if len(p.Bits) == 0 || slices.Min(p.Bits) < 0 || slices.Max(p.Bits) >= len(n.Nodes) {
			return api.ErrForm
		}
		if !isName(p.Name) {
			names = api.ErrName
		}
		named[p.Name]++
	}
	if names != api.OK {
		return names
	}
	if len(named) < len(all) {
		return api.ErrTwice
	}
	var fed, inputs []int
	for _, p := range n.Ins {
		fed = append(fed, p.Bits...)
	}
	for at, x := range n.Nodes {
		if x.Kind == api.Input {
			inputs = append(inputs, at)
		}
	}
	slices.Sort(fed)
	if !slices.Equal(fed, inputs) {
		return api.ErrNone
	}
	return api.OK
}

// rising tells levels by going through the nodes till none changes; those of a ring never have one, and false is told.
func rising(nodes []api.Node) ([]int, bool) {
	levels := slices.Repeat([]int{-1}, len(nodes))
	for known := true; known; {
		known = false
		for at, x := range nodes {
			if levels[at] >= 0 {
				continue
			}
			level := 0
			if x.Kind != api.Dff {
				for _, place := range parts(x)[:kindUses()[x.Kind]] {
					if levels[place] < 0 {
						level = -1
						break
					}
					level = max(level, levels[place]+1)
				}
			}
			levels[at] = level
			known = known || level >= 0
		}
	}
	return levels, !slices.Contains(levels, -1)
}

// ordered tells places by rising levels.
func ordered(levels []int) []int {
	var all []int
	for at := range levels {
		all = append(all, at)
	}
	slices.SortStableFunc(all, func(a, b int) int { return levels[a] - levels[b] })
	return all
}

// may holds all that is asked of a net that may be against the oracle.
func may(t *testing.T, n api.Net) {
	t.Helper()
	want, _ := rising(n.Nodes)
	if e := net.Check(n); e != api.OK {
		t.Errorf("Check of %s: %d", show(n), e)
	}
	if levels, e := net.Levels(n); e != api.OK || !slices.Equal(levels, want) {
		t.Errorf("Levels of %s: %v, %d, want %v", show(n), cut(levels), e, cut(want))
	}
	if depth, e := net.Depth(n); e != api.OK || depth != slices.Max(append(want, 0)) {
		t.Errorf("Depth of %s: %d, %d", show(n), depth, e)
	}
	order, e := net.Order(n)
	if e != api.OK || !slices.Equal(order, ordered(want)) {
		t.Errorf("Order of %s: %v, %d, want %v", show(n), cut(order), e, cut(ordered(want)))
	}
	behind(t, n, order)
}

// behind is P6.4: each node stands behind those it uses, but where it is a Dff.
func behind(t *testing.T, n api.Net, order []int) {
	t.Helper()
	stands := make([]int, len(n.Nodes))
	for i, at := range order {
		stands[at] = i
	}
	for at, x := range n.Nodes {
		for _, place := range net.Uses(x) {
			if x.Kind != api.Dff && stands[place] >= stands[at] {
				t.Errorf("Order of %s: node %d isn't behind %d", show(n), at, place)
				return
			}
		}
	}
}

// mayNot holds all that is asked of a net that may not be against an error, and zero values beside it.
func mayNot(t *testing.T, n api.Net, want api.Errno) {
	t.Helper()
	if e := net.Check(n); e != want {
		t.Errorf("Check of %s: %d, want %d", show(n), e, want)
	}
	if levels, e := net.Levels(n); e != want || len(levels) != 0 {
		t.Errorf("Levels of %s: %v, %d, want %d", show(n), cut(levels), e, want)
	}
	if depth, e := net.Depth(n); e != want || depth != 0 {
		t.Errorf("Depth of %s: %d, %d, want %d", show(n), depth, e, want)
	}
	if order, e := net.Order(n); e != want || len(order) != 0 {
		t.Errorf("Order of %s: %v, %d, want %d", show(n), cut(order), e, want)
	}
}

// check holds all that is asked of a net against the oracle.
func check(t *testing.T, n api.Net) {
	t.Helper()
	want := asked(n)
	if want == api.OK {
		if _, rises := rising(n.Nodes); !rises {
			want = api.ErrRing
		}
	}
	if want == api.OK {
		may(t, n)
		return
	}
	mayNot(t, n, want)
}

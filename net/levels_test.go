package net_test

import (
	"slices"
	"testing"

	"slipstick/api"
	"slipstick/net"
)

// P6.2

func TestExample(t *testing.T) {
	n := of(input(), input(), and(0, 1), not(2), dff(3, 0))
	levels, e := net.Levels(n)
	if want := []int{0, 0, 1, 2, 0}; e != api.OK || !slices.Equal(levels, want) {
		t.Errorf("Levels: %v, %d, want %v", levels, e, want)
	}
	if depth, e := net.Depth(n); depth != 2 || e != api.OK {
		t.Errorf("Depth: %d, %d", depth, e)
	}
	order, e := net.Order(n)
	if want := []int{0, 1, 4, 2, 3}; e != api.OK || !slices.Equal(order, want) {
		t.Errorf("Order: %v, %d, want %v", order, e, want)
	}
}

func TestLevelsWrittenOut(t *testing.T) {
	for _, c := range []struct {
		n             api.Net
		levels, order []int
	}{
		{ordinary(), []int{0, 0, 1, 2, 0, 2, 0, 3, 4, 0, 0, 0}, []int{0, 1, 4, 6, 9, 10, 11, 2, 3, 5, 7, 8}},
		{of(one(0), one(1), input()), []int{0, 0, 0}, []int{0, 1, 2}},
		// The greatest of those that are used counts, wherever it stands.
		{of(input(), not(0), not(1), mux(2, 0, 1), mux(0, 2, 1), mux(0, 1, 2), and(0, 2), or(2, 0), xor(1, 2)), []int{0, 1, 2, 3, 3, 3, 3, 3, 3}, []int{0, 1, 2, 3, 4, 5, 6, 7, 8}},
		// Nodes ahead of those they use.
		{of(not(1), and(3, 2), not(3), input()), []int{3, 2, 1, 0}, []int{3, 2, 1, 0}},
		{of(xor(1, 3), not(2), dff(0, 1), dff(1, 0)), []int{2, 1, 0, 0}, []int{2, 3, 1, 0}},
		// A gate behind a Dff begins anew.
		{of(input(), not(0), not(1), dff(2, 0), not(3), dff(4, 0)), []int{0, 1, 2, 0, 1, 0}, []int{0, 3, 5, 1, 4, 2}},
		{api.Net{}, nil, nil},
	} {
		levels, e := net.Levels(c.n)
		if e != api.OK || !slices.Equal(levels, c.levels) {
			t.Errorf("Levels of %s: %v, %d, want %v", show(c.n), levels, e, c.levels)
		}
		order, e := net.Order(c.n)
		if e != api.OK || !slices.Equal(order, c.order) {
			t.Errorf("Order of %s: %v, %d, want %v", show(c.n), order, e, c.order)
		}
		may(t, c.n)
	}
}

func TestDeepAndWide(t *testing.T) {
	for _, many := range []int{1, 2, 100, 3000, api.MostNodes - 1} {
		n := line(many)
		may(t, n)
		if depth, _ := net.Depth(n); depth != many {
			t.Errorf("Depth of a line of %d: %d", many, depth)
		}
	}
	for _, wide := range []int{1, 2, 3, 1000, api.MostNodes / 2} {
		may(t, tree(wide))
	}
	if depth, e := net.Depth(tree(1 << 17)); depth != 17 || e != api.OK {
		t.Errorf("Depth of a tree: %d, %d", depth, e)
	}
	for _, deep := range []int{1, 2, 60, api.MostNodes/2 - 1} {
		n := crossed(deep)
		may(t, n)
		if depth, _ := net.Depth(n); depth != deep {
			t.Errorf("Depth of crossed ways: %d, want %d", depth, deep)
		}
	}
}

// Lines turned about, of which the deepest node stands first.
func TestAhead(t *testing.T) {
	for _, many := range []int{1, 2, 100, api.MostNodes - 1} {
		n := ahead(many)
		var want []int
		for at := range many + 1 {
			want = append(want, many-at)
		}
		levels, e := net.Levels(n)
		if e != api.OK || !slices.Equal(levels, want) {
			t.Errorf("Levels of a line turned about: %v, %d", cut(levels), e)
		}
		// Place and level change places.
		order, e := net.Order(n)
		if e != api.OK || !slices.Equal(order, want) {
			t.Errorf("Order of a line turned about: %v, %d", cut(order), e)
		}
		if depth, e := net.Depth(n); depth != many || e != api.OK {
			t.Errorf("Depth of a line turned about: %d, %d", depth, e)
		}
		behind(t, n, order)
	}
}

// Nets whose nodes stand in any order, with Dffs among them.
func TestMixed(t *testing.T) {
	row := uint64(7)
	next := func(below int) int {
		row = row*6364136223846793005 + 1442695040888963407
		return int(row>>33) % below
	}
	for many := 2; many < 60; many++ {
		for range 10 {
			// Gates use nodes that have a place in the row already; then all places are turned.
			turn := func(at int) int { return (at + many/2) % many }
			if many%2 == 0 {
				turn = func(at int) int { return many - 1 - at }
			}
			nodes := make([]api.Node, many)
			for at := range many {
				if at < 2 {
					nodes[turn(at)] = input()
					continue
				}
				a, b, c := turn(next(at)), turn(next(at)), turn(next(at))
				nodes[turn(at)] = []api.Node{one(1), input(), not(a), and(a, b), or(a, b), xor(a, b), mux(a, b, c), dff(turn(next(many)), 1)}[next(8)]
			}
			may(t, of(nodes...))
		}
	}
}

// What is told is new memory.
func TestAnswersAreNew(t *testing.T) {
	n := ordinary()
	for _, ask := range []func() []int{
		func() []int { levels, _ := net.Levels(n); return levels },
		func() []int { order, _ := net.Order(n); return order },
		func() []int { return net.Uses(n.Nodes[5]) },
	} {
		first := ask()
		kept := slices.Clone(first)
		for i := range first[:cap(first)] {
			first[:cap(first)][i] = -99
		}
		if second := ask(); !slices.Equal(second, kept) {
			t.Errorf("asked again: %v, want %v", second, kept)
		}
	}
	if !net.Same(n, ordinary()) {
		t.Errorf("what is told shares memory with the net: %s", show(n))
	}
}

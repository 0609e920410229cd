package tree_test

import (
	"fmt"
	"math"
	"slices"
	"testing"

	"slipstick/api"
	"slipstick/build"
	"slipstick/probe"
	"slipstick/tree"
)

// P15.1

// three and four lay their two words.
func three(b *build.B, x [][]int) [][]int {
	sum, carry := tree.Three(b, x[0], x[1], x[2])
	return [][]int{sum, carry}
}

func four(b *build.B, x [][]int) [][]int {
	sum, carry := tree.Four(b, x[0], x[1], x[2], x[3])
	return [][]int{sum, carry}
}

func TestThree(t *testing.T) {
	for _, ins := range append(widths(3, 5), []int{8, 8, 8}, []int{9, 0, 3}, []int{1, 2, 20}, []int{33, 32, 31}, []int{64, 64, 64}, []int{100, 7, 130}) {
		n := slices.Max(ins)
		holds(t, "Three", ins, []int{n, n + 1}, -1, 3, three)
	}
}

// four's words are of any sizes from one bit on.
func TestFour(t *testing.T) {
	for _, ins := range append(widths(4, 4), []int{8, 8, 8, 8}, []int{0, 9, 0, 3}, []int{1, 2, 20, 1}, []int{33, 32, 31, 30}, []int{64, 64, 64, 64}, []int{7, 100, 7, 130}) {
		b := build.New()
		var wides []int
		probe.Laid(b, ins, func(x [][]int) [][]int {
			for _, word := range four(b, x) {
				if len(word) < 1 {
					t.Errorf("Four of %v: a word of %d bits", ins, len(word))
				}
				wides = append(wides, len(word))
			}
			return nil
		})
		holds(t, "Four", ins, wides, -1, 6, four)
	}
}

// P15.2

// the chapter's examples, and others counted by hand.
func TestRounds(t *testing.T) {
	for rows, want := range []int{0, 0, 0, 1, 2, 3, 3, 4, 4, 4, 5, 5, 5, 5} {
		if got := tree.Rounds(rows); got != want {
			t.Errorf("Rounds of %d: %d, want %d", rows, got, want)
		}
	}
	for _, rows := range []int{-1, -2, -3, -100, math.MinInt} {
		if got := tree.Rounds(rows); got != 0 {
			t.Errorf("Rounds of %d: %d", rows, got)
		}
	}
	for rows := 3; rows < 3000; rows++ {
		if got, want := tree.Rounds(rows), 1+tree.Rounds(rows-rows/3); got != want {
			t.Errorf("Rounds of %d: %d, want %d", rows, got, want)
		}
	}
	// Each round leaves no fewer than two of three.
	if got := tree.Rounds(math.MaxInt); got < 106 || got > 112 {
		t.Errorf("Rounds of %d: %d", math.MaxInt, got)
	}
}

// of lays two words, or one, of all rows.
func two(width int) lay {
	return func(b *build.B, rows [][]int) [][]int {
		x, y := tree.Two(b, rows, width)
		return [][]int{x, y}
	}
}

func whole(width int) lay {
	return func(b *build.B, rows [][]int) [][]int { return [][]int{tree.Total(b, rows, width)} }
}

// sums holds Two and Total of rows of these widths, of so many bits.
func sums(t *testing.T, ins []int, width int) {
	t.Helper()
	bits := max(width, 0)
	holds(t, fmt.Sprint("Two to ", width), ins, []int{bits, bits}, bits, 3*tree.Rounds(len(ins)), two(width))
	holds(t, fmt.Sprint("Total to ", width), ins, []int{bits}, bits, math.MaxInt, whole(width))
}

// No rows, one, two, three and four, of no bits, one, and unlike lengths, by all values, to fewer bits than they have, as many and more.
func TestSmallRows(t *testing.T) {
	for many := range 5 {
		for _, ins := range widths(many, 4) {
			for _, width := range []int{math.MinInt, -1, 0, 1, 2, 3, 5, 8} {
				sums(t, ins, width)
			}
		}
	}
}

// Many rows: by edges and values of no rule; one bit each by all values.
func TestManyRows(t *testing.T) {
	r := probe.NewRule(15)
	for many := 5; many < 40; many++ {
		ins := make([]int, many)
		for i := range ins {
			ins[i] = r.Below(12)
		}
		for _, width := range []int{0, 1, 7, 12, 20, 70} {
			sums(t, ins, width)
		}
		sums(t, slices.Repeat([]int{1}, many), 8)
	}
	sums(t, slices.Repeat([]int{106}, 28), 106)
	sums(t, slices.Repeat([]int{3}, 300), 12)
}

// The same row many times over, and rows that are no lists.
func TestRowsTwice(t *testing.T) {
	for many := range 12 {
		c := probe.Case[*build.B]{New: build.New, Ins: []int{4}, Wides: []int{7}, Lay: func(b *build.B, x [][]int) [][]int {
			rows := slices.Repeat(x, many)
			return [][]int{tree.Total(b, append(rows, nil, []int{}), 7)}
		}, Want: probe.Numbers(func(v []uint64) []uint64 { return []uint64{v[0] * uint64(many)} }, 7)}
		if fault := c.Amiss(probe.Every(4)); fault != "" {
			t.Errorf("%d times: %s", many, fault)
		}
	}
}

// P15.3

// The order of rows changes nothing: the sums of two orders are the same, within one net.
func TestOrder(t *testing.T) {
	r := probe.NewRule(153)
	for many := range 15 {
		ins := make([]int, many)
		for i := range ins {
			ins[i] = r.Below(9)
		}
		order := r.Shuffled(many)
		c := probe.Case[*build.B]{New: build.New, Ins: ins, Wides: []int{1}, Lay: func(b *build.B, rows [][]int) [][]int {
			var turned [][]int
			for _, i := range order {
				turned = append(turned, rows[i])
			}
			return [][]int{{b.Same(tree.Total(b, rows, 10), tree.Total(b, turned, 10))}}
		}, Want: func([][]int) [][]int { return [][]int{{1}} }}
		if fault := c.Amiss(probe.Some(ins...)); fault != "" {
			t.Error(fault)
		}
	}
}

// R3: the list of rows, and what is behind its end, stays as it was.
func TestRowsStay(t *testing.T) {
	b := build.New()
	x := b.In("x", 3)
	rows := [][]int{x, x[:1], nil, x, x[1:], x, {9}, {9}}
	given := rows[:6]
	tree.Two(b, given, 4)
	tree.Total(b, given, 2)
	want := [][]int{{0, 1, 2}, {0}, nil, {0, 1, 2}, {1, 2}, {0, 1, 2}, {9}, {9}}
	if !slices.EqualFunc(rows, want, slices.Equal[[]int]) {
		t.Errorf("%v", rows)
	}
	p, q := tree.Two(b, given[:1], 3)
	p[0], q[0] = 77, 78
	if !slices.EqualFunc(rows, want, slices.Equal[[]int]) || p[0] != 77 {
		t.Errorf("%v", rows)
	}
	for _, node := range b.Net().Nodes {
		if node.Kind == api.Dff {
			t.Error("a Dff was laid")
		}
	}
}

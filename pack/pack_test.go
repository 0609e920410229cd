package pack_test

import (
	"math"
	"slices"
	"testing"

	"slipstick/api"
	"slipstick/build"
	"slipstick/format"
	"slipstick/nat"
	"slipstick/pack"
	"slipstick/probe"
)

// P19.1

// The chapter's example.
func TestExample(t *testing.T) {
	f := of(t, 16)
	b := build.New()
	bits, flags := pack.Round(b, f, b.Word(nil, 3), b.Bit(0), b.Word(nat.Of(24), 6), b.Word(nat.Of(2049), 13), b.Bit(0))
	b.Out("z", bits)
	b.Out("flags", flags)
	told := probe.Told(b.Net(), [][][]int{nil})[0]
	if probe.Number(told[0]) != 0x6800 || !slices.Equal(told[1], []int{1, 0, 0, 0, 0}) {
		t.Errorf("%v", told)
	}
}

// All sizes of few bits, at all places of few bits: no bits, one, and so many that all of the format is passed.
func TestSmallSizes(t *testing.T) {
	f := of(t, 16)
	for size := range 6 {
		for place := range 7 {
			half := 1 << place / 2
			holds(t, f, place, size, ways(every(size), span(-half, max(half-1, 0))))
		}
	}
}

// Sizes of as many bits as the format keeps, one and two more, and many: at each place from below all to beyond all.
func TestPlaces(t *testing.T) {
	f := of(t, 16)
	r := probe.NewRule(19)
	for _, width := range []int{10, 11, 12, 13, 14, 16, 21, 25, 32, 33, 51, 64} {
		holds(t, f, 8, width, ways(edges(r, f, width, 12), span(-100, 60)))
	}
}

// All sizes of 13 bits, with and without more, at places from below all to beyond all.
func TestAllSizesOf13Bits(t *testing.T) {
	f := of(t, 16)
	for _, place := range []int{-14, -12, -2, -1, 0, 1, 26, 27, 28} {
		holds(t, f, 6, 13, ways(every(13), []int{place}))
	}
}

// edges are words whose highest bits are at the edges of being rounded: the bits that are kept odd, even and all 1, below them halfway, next to it, nothing and all. The highest bit stands at each place.
func edges(r *probe.Rule, f format.Form, width, many int) [][]int {
	all := [][]int{make([]int, width), slices.Repeat(one(1), width)}
	for range many {
		word := make([]int, width)
		top := r.Below(width)
		below := word[:max(top+1-f.P, 0)]
		full := slices.Repeat(one(1), len(below))
		switch r.Below(6) {
		case 0:
			copy(below, full)
		case 1:
			copy(below[:max(len(below)-1, 0)], full)
		case 2, 3:
			if len(below) > 0 {
				below[len(below)-1] = 1
				below[0] |= r.Below(2)
			}
		case 4:
			for k := range below {
				below[k] = r.Below(2)
			}
		}
		ones := r.Below(3)
		for k := len(below); k < top; k++ {
			word[k] = []int{0, 1, r.Below(2)}[ones]
		}
		word[top] = 1
		if len(below) <= top {
			word[len(below)] |= r.Below(2)
		}
		all = append(all, word)
	}
	return all
}

// In the great formats: at the edges of being rounded, of being subnormal, of being nothing and of being beyond.
func TestGreatFormats(t *testing.T) {
	for _, bits := range []int{32, 64} {
		f := of(t, bits)
		r := probe.NewRule(uint64(bits))
		for _, width := range []int{1, 5, f.P - 1, f.P, f.P + 1, f.P + 2, f.P + 3, 2 * f.P, 2*f.P + 3, 4*f.P + 7} {
			highest := 1<<f.Wide - 2
			var all []given
			for _, size := range edges(r, f, width, 30) {
				top := len(size) - 1
				for top > 0 && size[top] == 0 {
					top--
				}
				// The place of the size's lowest bit, by where its highest one shall stand.
				for _, at := range []int{-3, -2, -1, 0, 1, 2, f.P - 2, f.P - 1, f.P, f.P + 1, f.P + 40, highest + f.P - 3, highest + f.P - 2, highest + f.P - 1, highest + f.P, highest + f.P + 9, -f.P, -5 * f.P, 3 * highest / 2} {
					all = append(all, ways([][]int{size}, []int{at - top})...)
				}
			}
			holds(t, f, f.Wide+4, width, all)
		}
	}
}

// The greatest numbers of each format, halfway to what is beyond, and next to that.
func TestBeyond(t *testing.T) {
	for _, bits := range []int{16, 32, 64} {
		f := of(t, bits)
		width := f.P + 3
		var sizes [][]int
		for _, low := range []uint64{0, 1, 3, 4, 5, 7} {
			for _, odd := range []uint64{0, 1} {
				size := uint64(1)<<width - 16 + 8*odd + low
				sizes = append(sizes, probe.Bits(size, width))
			}
		}
		sizes = append(sizes, probe.Bits(1<<(width-1), width))
		highest := 1<<f.Wide - 3
		holds(t, f, f.Wide+1, width, ways(sizes, []int{highest - 4, highest - 3, highest - 2, highest - 1}))
	}
}

// Places of few bits, and of more than there are of anything else.
func TestWidthsOfPlaces(t *testing.T) {
	f := of(t, 16)
	r := probe.NewRule(191)
	for _, place := range []int{0, 1, 2, 5, 6, 7, 12, 13} {
		half := 1 << place / 2
		places := []int{-half, max(half-1, 0), 0}
		for range 20 {
			places = append(places, r.Below(1<<place)-half)
		}
		if place == 0 {
			places = one(0)
		}
		for _, width := range []int{0, 1, 4, 13, 14, 40, 63, 127} {
			sizes := [][]int{nil}
			if width > 0 {
				sizes = edges(r, f, width, 6)
			}
			holds(t, f, place, width, ways(sizes, places))
		}
	}
	// No number of such places may be rounded, but what they must tell is plain.
	for _, place := range []int{20, 40, 63, 64, 65, 100} {
		n, fault := packs(f, place, 3).Net()
		if fault != "" {
			t.Fatal(fault)
		}
		far, near := make([]int, place), slices.Repeat(one(1), place)
		far[place-2], near[place-2] = 1, 0
		size := []int{1, 0, 1}
		told := probe.Tells(n, [][][]int{{{0, 0, 0}, one(1), far, size, one(0)}, {{1, 1, 0}, one(0), near, size, one(0)}, {{0, 0, 0}, one(1), near, size, one(0)}, {{1, 0, 0}, one(0), far, {0, 0, 0}, one(0)}})
		for i, want := range [][]uint64{{0xfc00, 5}, {1, 3}, {0x8000, 3}, {0, 0}} {
			if probe.Number(told[i][0]) != want[0] || probe.Number(told[i][1]) != want[1] {
				t.Errorf("place of %d bits, %d: %v, want %x", place, i, told[i], want)
			}
		}
	}
}

// P19.2

func TestModes(t *testing.T) {
	c := probe.Case[*build.B]{New: build.New, Ins: one(3), Wides: one(5), Lay: func(b *build.B, x [][]int) [][]int {
		is := pack.Modes(b, x[0])
		return [][]int{is[:]}
	}, Want: probe.Numbers(func(v []uint64) []uint64 {
		if v[0] >= api.Modes {
			return []uint64{0}
		}
		return []uint64{1 << v[0]}
	}, 5)}
	if fault := c.Amiss(probe.Every(3)); fault != "" {
		t.Error(fault)
	}
}

// signed is a word's number with a sign.
func signed(v uint64, width int) int64 {
	if width == 0 {
		return 0
	}
	return int64(v<<(64-width)) >> (64 - width)
}

func TestSigned(t *testing.T) {
	for width := range 7 {
		for _, to := range []int{math.MinInt, -1, 0, 1, 2, 3, 4, 5, 6, 7, 20, 64} {
			wide := max(to, 0)
			c := probe.Case[*build.B]{New: build.New, Ins: one(width), Wides: one(wide), Lay: func(b *build.B, x [][]int) [][]int {
				return [][]int{pack.Signed(b, x[0], to)}
			}, Want: func(x [][]int) [][]int {
				return [][]int{probe.Bits(uint64(signed(probe.Number(x[0]), width)), wide)}
			}}
			if fault := c.Amiss(probe.Every(width)); fault != "" {
				t.Errorf("Signed to %d: %s", to, fault)
			}
		}
	}
}

func TestCount(t *testing.T) {
	for _, n := range []int{0, 1, 2, 5, -1, -2, -5, 100, -100, 1 << 40, math.MaxInt, math.MinInt} {
		for _, width := range []int{math.MinInt, -1, 0, 1, 2, 3, 8, 41, 63, 64, 65, 100} {
			b := build.New()
			x := pack.Count(b, n, width)
			b.Out("z", x)
			told := probe.Told(b.Net(), [][][]int{nil})[0][0]
			want := make([]int, max(width, 0))
			for k := range want {
				// Below 0 all higher bits are 1.
				if n < 0 {
					want[k] = 1
				}
				if k < 64 {
					want[k] = int(uint64(n) >> k & 1)
				}
			}
			if !slices.Equal(told, want) {
				t.Errorf("Count of %d, %d bits: %v", n, width, told)
			}
		}
	}
}

// P19.3

// numbers are finite words of a format: of 16 bits all, else those at the edges, and some of no rule.
func numbers(f format.Form) []uint64 {
	var all []uint64
	if f.Bits == 16 {
		for v := range uint64(1 << 15) {
			all = append(all, v)
		}
	} else {
		r := probe.NewRule(uint64(f.Bits))
		for range 3000 {
			field := []uint64{0, 1, 2, 1<<f.Wide - 2, 1<<f.Wide - 3, r.Next() & (1<<f.Wide - 1)}[r.Below(6)]
			fraction := []uint64{0, 1, 1<<(f.P-1) - 1, 1 << r.Below(f.P-1), r.Next() & (1<<(f.P-1) - 1)}[r.Below(5)]
			all = append(all, field<<(f.P-1)|fraction)
		}
	}
	return slices.DeleteFunc(all, func(v uint64) bool { return f.Class(v) > format.Normal })
}

// A number of the format is packed as itself, by each mode, without flags: from its own size, and from that with bits 0 below it.
func TestNumbersAsThemselves(t *testing.T) {
	for _, bits := range []int{16, 32, 64} {
		f := of(t, bits)
		for _, below := range []int{0, 1, 7} {
			n, fault := packs(f, f.Wide+2, f.P+below).Net()
			if fault != "" {
				t.Fatal(fault)
			}
			var script [][][]int
			var words []uint64
			for i, v := range numbers(f) {
				field := v >> (f.P - 1)
				size := v & (1<<(f.P-1) - 1)
				if field > 0 {
					size |= 1 << (f.P - 1)
					field--
				}
				sign := i % 2
				words = append(words, v|uint64(sign)<<(f.Bits-1))
				script = append(script, [][]int{probe.Bits(uint64(i%5), 3), one(sign), probe.Bits(uint64(int(field)-below), f.Wide+2), append(make([]int, below), probe.Bits(size, f.P)...), one(0)})
			}
			for i, told := range probe.Tells(n, script) {
				if probe.Number(told[0]) != words[i] || probe.Number(told[1]) != 0 {
					t.Fatalf("%x of %d bits: %x, %v", words[i], bits, probe.Number(told[0]), told[1])
				}
			}
		}
	}
}

// The same calls lay the same, and share nothing with one another.
func TestAgain(t *testing.T) {
	for _, bits := range []int{16, 32, 64} {
		if fault := packs(of(t, bits), 9, 20).Amiss(nil); fault != "" {
			t.Error(fault)
		}
	}
}

// Forms that format.Of doesn't tell, and modes of other lengths: no call panics.
func TestNoPanic(t *testing.T) {
	for _, f := range []format.Form{{}, {Bits: 16, P: 99, Wide: 5}, {Bits: -1, P: -1, Wide: -1}, of(t, 16)} {
		for _, width := range []int{0, 1, 5} {
			b := build.New()
			x := b.In("x", width)
			pack.Modes(b, x)
			if bits, flags := pack.Round(b, f, x, b.Bit(0), x, x, b.Bit(1)); f != of(t, 16) && len(bits)+len(flags) > 0 {
				t.Errorf("Round of %v: %v, %v", f, bits, flags)
			}
		}
	}
}

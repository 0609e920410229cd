package format_test

import (
	"encoding/binary"
	"math"
	"math/big"
	"slices"
	"testing"

	"slipstick/api"
	"slipstick/dyad"
	"slipstick/format"
	"slipstick/nat"
)

// edges are the bits that the document names, of one format, written out.
type edges struct {
	bits, p, wide, bias, low                      int
	sign, leastSub, greatestSub, leastNormal, one uint64
	greatest, infinite, signal, mostSignal        uint64
	quiet, mostQuiet                              uint64
}

func allEdges() []edges {
	return []edges{
		{
			bits: 16, p: 11, wide: 5, bias: 15, low: -24,
			sign: 0x8000, leastSub: 0x0001, greatestSub: 0x03ff, leastNormal: 0x0400, one: 0x3c00, greatest: 0x7bff,
			infinite: 0x7c00, signal: 0x7c01, mostSignal: 0x7dff, quiet: 0x7e00, mostQuiet: 0x7fff,
		},
		{
			bits: 32, p: 24, wide: 8, bias: 127, low: -149,
			sign: 0x80000000, leastSub: 0x00000001, greatestSub: 0x007fffff, leastNormal: 0x00800000, one: 0x3f800000, greatest: 0x7f7fffff,
			infinite: 0x7f800000, signal: 0x7f800001, mostSignal: 0x7fbfffff, quiet: 0x7fc00000, mostQuiet: 0x7fffffff,
		},
		{
			bits: 64, p: 53, wide: 11, bias: 1023, low: -1074,
			sign: 0x8000000000000000, leastSub: 0x0000000000000001, greatestSub: 0x000fffffffffffff, leastNormal: 0x0010000000000000, one: 0x3ff0000000000000, greatest: 0x7fefffffffffffff,
			infinite: 0x7ff0000000000000, signal: 0x7ff0000000000001, mostSignal: 0x7ff7ffffffffffff, quiet: 0x7ff8000000000000, mostQuiet: 0x7fffffffffffffff,
		},
	}
}

// form is the format of those edges, as Of tells it.
func (c edges) form(t *testing.T) format.Form {
	t.Helper()
	f, e := format.Of(c.bits)
	if e != api.OK {
		t.Fatalf("Of(%d): %d", c.bits, e)
	}
	return f
}

// both are the bits of either sign.
func (c edges) both(size uint64) []uint64 { return []uint64{size, c.sign | size} }

// samples are bits of no sign: all of a format of 16 bits; of the others those near each change of the exponent, and some scattered ones.
func (c edges) samples() []uint64 {
	var all []uint64
	if c.bits == 16 {
		for b := range c.sign {
			all = append(all, b)
		}
		return all
	}
	for field := uint64(0); field < 1<<c.wide; field++ {
		start := field << (c.p - 1)
		for _, fraction := range []uint64{0, 1, 2, c.leastNormal / 2, c.leastNormal/2 - 1, c.leastNormal/2 + 1, c.leastNormal - 2, c.greatestSub} {
			all = append(all, start|fraction)
		}
	}
	scattered := uint64(0x9e3779b97f4a7c15)
	for range 2000 {
		scattered = scattered*6364136223846793005 + 1442695040888963407
		all = append(all, scattered>>(65-c.bits))
	}
	return all
}

// asFloat tells what the bits of a format are, by the machine's own numbers; those of 16 bits by hand.
func (c edges) asFloat(b uint64) float64 {
	switch c.bits {
	case 64:
		return math.Float64frombits(b)
	case 32:
		return float64(math.Float32frombits(uint32(b)))
	}
	size := math.Ldexp(float64(b&0x3ff), -24)
	switch field := b >> 10 & 31; {
	case field == 31 && b&0x3ff != 0:
		return math.NaN()
	case field == 31:
		size = math.Inf(1)
	case field != 0:
		size = math.Ldexp(1+float64(b&0x3ff)/1024, int(field)-15)
	}
	if b>>15 == 1 {
		return -size
	}
	return size
}

// exact says N, with its sign, in the library's own way.
func exact(a dyad.Dyad) *big.Int {
	var bytes []byte
	for _, part := range slices.Backward(a.N) {
		bytes = binary.BigEndian.AppendUint32(bytes, part)
	}
	n := new(big.Int).SetBytes(bytes)
	if a.Neg {
		n.Neg(n)
	}
	return n
}

// rational says a number in the library's own way.
func rational(a dyad.Dyad) *big.Rat {
	r := new(big.Rat).SetInt(exact(a))
	power := new(big.Rat).SetInt(new(big.Int).Lsh(big.NewInt(1), uint(max(a.E, -a.E))))
	if a.E < 0 {
		return r.Quo(r, power)
	}
	return r.Mul(r, power)
}

// isPlain tells whether a number is in the form in which all are told.
func isPlain(a dyad.Dyad) bool {
	if len(a.N) == 0 {
		return !a.Neg && a.E == 0
	}
	return a.N[0]&1 == 1 && a.N[len(a.N)-1] != 0
}

func isZero(a dyad.Dyad) bool { return !a.Neg && len(a.N) == 0 && a.E == 0 }

// number is n times 2^e.
func number(n uint64, e int) dyad.Dyad { return dyad.Dyad{N: nat.Of(n), E: e} }

// below is the number of the other sign.
func below(a dyad.Dyad) dyad.Dyad { return dyad.Dyad{Neg: !a.Neg, N: a.N, E: a.E} }

// P3.1

func TestOf(t *testing.T) {
	for _, c := range allEdges() {
		f := c.form(t)
		if f != (format.Form{Bits: c.bits, P: c.p, Wide: c.wide}) {
			t.Errorf("Of(%d): %v", c.bits, f)
		}
		if f.Bias() != c.bias || f.Low() != c.low {
			t.Errorf("%d bits: bias %d, low %d", c.bits, f.Bias(), f.Low())
		}
	}
}

func TestOfOthers(t *testing.T) {
	wrong := []int{math.MinInt, -64, -32, -16, 1 << 16, 1<<32 + 16, 1<<32 + 64, math.MaxInt}
	for bits := -5; bits <= 300; bits++ {
		if bits != 16 && bits != 32 && bits != 64 {
			wrong = append(wrong, bits)
		}
	}
	for _, bits := range wrong {
		if f, e := format.Of(bits); e != api.ErrArg || f != (format.Form{}) {
			t.Errorf("Of(%d): %v, %d", bits, f, e)
		}
	}
}

func TestMay(t *testing.T) {
	for _, c := range allEdges() {
		f := c.form(t)
		for _, b := range []uint64{0, 1, c.one, c.infinite, c.mostQuiet, c.sign, c.sign | c.mostQuiet} {
			if !f.May(b) {
				t.Errorf("%d bits: %#x may not be", c.bits, b)
			}
		}
		for place := range 64 {
			for _, beside := range []uint64{0, c.one, c.sign | c.quiet} {
				b := uint64(1)<<place | beside
				if got := f.May(b); got != (place < c.bits) {
					t.Errorf("%d bits: May(%#x) %v", c.bits, b, got)
				}
			}
		}
	}
	if f, _ := format.Of(64); !f.May(math.MaxUint64) {
		t.Error("all of 64 bits may not be")
	}
}

func TestClassAtTheEdges(t *testing.T) {
	for _, c := range allEdges() {
		f := c.form(t)
		for _, x := range []struct {
			size uint64
			want int
		}{
			{0, format.Naught},
			{c.leastSub, format.Sub}, {2, format.Sub}, {c.greatestSub, format.Sub},
			{c.leastNormal, format.Normal}, {c.leastNormal + 1, format.Normal}, {c.one, format.Normal}, {c.greatest, format.Normal}, {c.infinite - c.leastNormal, format.Normal},
			{c.infinite, format.Inf},
			{c.signal, format.Signal}, {c.mostSignal, format.Signal},
			{c.quiet, format.Quiet}, {c.quiet + 1, format.Quiet}, {c.mostQuiet, format.Quiet},
		} {
			for _, b := range c.both(x.size) {
				if got := f.Class(b); got != x.want {
					t.Errorf("%d bits: Class(%#x) %d, want %d", c.bits, b, got, x.want)
				}
				if got := f.Neg(b); got != (b != x.size) {
					t.Errorf("%d bits: Neg(%#x) %v", c.bits, b, got)
				}
			}
		}
	}
}

// classOf tells the class by the machine's own number.
func (c edges) classOf(b uint64) int {
	v := c.asFloat(b)
	switch {
	case math.IsNaN(v) && b&(c.quiet-c.infinite) != 0:
		return format.Quiet
	case math.IsNaN(v):
		return format.Signal
	case math.IsInf(v, 0):
		return format.Inf
	case v == 0:
		return format.Naught
	case math.Abs(v) < math.Ldexp(1, 1-c.bias):
		return format.Sub
	}
	return format.Normal
}

func TestClassAndNeg(t *testing.T) {
	for _, c := range allEdges() {
		f := c.form(t)
		for _, size := range c.samples() {
			for _, b := range c.both(size) {
				if got, want := f.Class(b), c.classOf(b); got != want {
					t.Errorf("%d bits: Class(%#x) %d, want %d", c.bits, b, got, want)
				}
				if got := f.Neg(b); got != (b != size) {
					t.Errorf("%d bits: Neg(%#x) %v", c.bits, b, got)
				}
			}
		}
	}
}

// Bits beyond the format's are none of it.
func TestBitsBeyond(t *testing.T) {
	for _, c := range allEdges() {
		f := c.form(t)
		for place := c.bits; place < 64; place++ {
			for _, size := range []uint64{0, c.leastSub, c.greatestSub, c.leastNormal, c.greatest, c.infinite, c.signal, c.quiet} {
				for _, b := range c.both(size) {
					far := b | 1<<place
					if f.Class(far) != f.Class(b) || f.Neg(far) != f.Neg(b) || f.Quieted(far) != f.Quieted(b) {
						t.Errorf("%d bits: %#x: class %d, neg %v, quieted %#x", c.bits, far, f.Class(far), f.Neg(far), f.Quieted(far))
					}
					// That it may not be is told ahead of that it is no number.
					if v, e := f.Value(far); e != api.ErrRange || !isZero(v) {
						t.Errorf("%d bits: Value(%#x) %v, %d", c.bits, far, v, e)
					}
				}
			}
		}
	}
}

// P3.2

func TestValue(t *testing.T) {
	for _, c := range allEdges() {
		f := c.form(t)
		for _, size := range c.samples() {
			for _, b := range c.both(size) {
				got, e := f.Value(b)
				want := c.asFloat(b)
				if math.IsNaN(want) || math.IsInf(want, 0) {
					if e != api.ErrArg || !isZero(got) {
						t.Errorf("%d bits: Value(%#x) %v, %d", c.bits, b, got, e)
					}
					continue
				}
				if e != api.OK || !isPlain(got) || rational(got).Cmp(new(big.Rat).SetFloat64(want)) != 0 {
					t.Errorf("%d bits: Value(%#x) %v, %d, want %g", c.bits, b, got, e, want)
				}
			}
		}
	}
}

func TestValueAtTheEdges(t *testing.T) {
	for _, c := range allEdges() {
		f := c.form(t)
		for _, x := range []struct {
			b    uint64
			want dyad.Dyad
		}{
			{0, dyad.Dyad{}}, {c.sign, dyad.Dyad{}},
			{c.leastSub, number(1, c.low)}, {c.leastSub | c.sign, below(number(1, c.low))},
			{c.greatestSub, number(1<<(c.p-1)-1, c.low)}, {c.greatestSub | c.sign, below(number(1<<(c.p-1)-1, c.low))},
			{c.leastNormal, number(1, 1-c.bias)}, {c.leastNormal | c.sign, below(number(1, 1-c.bias))},
			{c.leastNormal + 1, number(1<<(c.p-1)+1, c.low)},
			{c.one, number(1, 0)}, {c.one | c.sign, below(number(1, 0))}, {c.one + 1, number(1<<(c.p-1)+1, 1-c.p)},
			{c.greatest, number(1<<c.p-1, c.bias-c.p+1)}, {c.greatest | c.sign, below(number(1<<c.p-1, c.bias-c.p+1))},
		} {
			got, e := f.Value(x.b)
			if e != api.OK || got.Neg != x.want.Neg || got.E != x.want.E || !slices.Equal(got.N, x.want.N) {
				t.Errorf("%d bits: Value(%#x) %v, %d, want %v", c.bits, x.b, got, e, x.want)
			}
		}
		for _, size := range []uint64{c.infinite, c.signal, c.mostSignal, c.quiet, c.mostQuiet} {
			for _, b := range c.both(size) {
				if got, e := f.Value(b); e != api.ErrArg || !isZero(got) {
					t.Errorf("%d bits: Value(%#x) %v, %d", c.bits, b, got, e)
				}
			}
		}
	}
}

// P3.3

func TestOutstandingBits(t *testing.T) {
	for _, c := range allEdges() {
		f := c.form(t)
		for i, x := range []struct{ got, want uint64 }{
			{f.Infinite(false), c.infinite}, {f.Infinite(true), c.sign | c.infinite},
			{f.Greatest(false), c.greatest}, {f.Greatest(true), c.sign | c.greatest},
			{f.Nought(false), 0}, {f.Nought(true), c.sign},
			{f.None(), c.quiet},
		} {
			if x.got != x.want {
				t.Errorf("%d bits, case %d: %#x, want %#x", c.bits, i, x.got, x.want)
			}
		}
	}
}

func TestQuieted(t *testing.T) {
	for _, c := range allEdges() {
		f := c.form(t)
		high := c.quiet - c.infinite
		for _, size := range c.samples() {
			for _, b := range c.both(size) {
				if got := f.Quieted(b); got != b|high {
					t.Errorf("%d bits: Quieted(%#x) %#x", c.bits, b, got)
				}
			}
		}
		for _, b := range []uint64{c.signal, c.mostSignal, c.quiet, c.mostQuiet, c.sign | c.signal, c.sign | c.mostQuiet} {
			if got := f.Quieted(b); f.Class(got) != format.Quiet || got&^high != b&^high {
				t.Errorf("%d bits: Quieted(%#x) %#x", c.bits, b, got)
			}
		}
		if got, want := f.Quieted(math.MaxUint64), c.sign|c.mostQuiet; got != want {
			t.Errorf("%d bits: Quieted of all bits 1: %#x", c.bits, got)
		}
	}
	if f, _ := format.Of(16); f.Quieted(1<<16|0x7c01) != 0x7e01 {
		t.Error("a bit beyond the format's is told")
	}
}

// The chapter's examples.
func TestExamples(t *testing.T) {
	f, _ := format.Of(16)
	one, _ := f.Value(0x3c00)
	least, _ := f.Value(0x0001)
	if !dyad.Same(one, dyad.Of(1)) || !dyad.Same(least, number(1, -24)) || f.Class(0x7c00) != format.Inf || f.Class(0x7e00) != format.Quiet {
		t.Errorf("%v, %v, %d, %d", one, least, f.Class(0x7c00), f.Class(0x7e00))
	}
}

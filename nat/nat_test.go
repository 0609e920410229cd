package nat_test

import (
	"math"
	"math/big"
	"slices"
	"testing"

	"slipstick/api"
	"slipstick/nat"
)

const full = math.MaxUint32

// samples are numbers whose parts lie at the edges of carries and borrows, with parts 0 within and at the end.
func samples() []nat.Nat {
	edges := []uint32{0, 1, 2, 1<<31 - 1, 1 << 31, full - 1, full}
	all := []nat.Nat{nil}
	for _, x := range edges {
		all = append(all, nat.Nat{x})
		for _, y := range edges {
			all = append(all, nat.Nat{x, y})
		}
	}
	for _, x := range []uint32{0, 1, full} {
		for _, y := range []uint32{0, 1 << 31, full} {
			all = append(all, nat.Nat{x, y, x, y}, nat.Nat{x, x, y}, nat.Nat{y, 0, x, 0, 0}, nat.Nat{0xdeadbeef, x, 0x12345678, y, 0x9abcdef1})
		}
	}
	return all
}

// asBig says a number in the library's own way, to hold answers against.
func asBig(a nat.Nat) *big.Int {
	n := new(big.Int)
	for i := len(a) - 1; i >= 0; i-- {
		n.Lsh(n, 32)
		n.Add(n, big.NewInt(int64(a[i])))
	}
	return n
}

// checkTold fails where a number has parts 0 at its end or isn't the one that is wanted.
func checkTold(t *testing.T, what string, got nat.Nat, want *big.Int) {
	t.Helper()
	if len(got) > 0 && got[len(got)-1] == 0 {
		t.Errorf("%s: %x has a part 0 at its end", what, got)
	}
	if asBig(got).Cmp(want) != 0 {
		t.Errorf("%s: %x, want %x", what, asBig(got), want)
	}
}

// power is 2^n, made without a shift of the package.
func power(n int) nat.Nat {
	a := make(nat.Nat, n/32+1)
	a[n/32] = 1 << (n % 32)
	return a
}

// ones is 2^n less 1.
func ones(n int) nat.Nat {
	a := make(nat.Nat, n/32+1)
	for i := range n {
		a[i/32] |= 1 << (i % 32)
	}
	return a
}

// P1.1

func TestOf(t *testing.T) {
	for _, c := range []struct {
		n    uint64
		want nat.Nat
	}{
		{0, nil}, {1, nat.Nat{1}}, {full, nat.Nat{full}}, {1 << 32, nat.Nat{0, 1}}, {0x123456789abcdef0, nat.Nat{0x9abcdef0, 0x12345678}}, {math.MaxUint64, nat.Nat{full, full}},
	} {
		if got := nat.Of(c.n); !slices.Equal(got, c.want) {
			t.Errorf("Of(%d): %x, want %x", c.n, got, c.want)
		}
	}
}

func TestWord(t *testing.T) {
	for _, c := range []struct {
		a    nat.Nat
		want uint64
		e    api.Errno
	}{
		{nil, 0, api.OK}, {nat.Nat{0, 0, 0}, 0, api.OK}, {nat.Nat{7}, 7, api.OK}, {nat.Nat{0x9abcdef0, 0x12345678}, 0x123456789abcdef0, api.OK},
		{ones(64), math.MaxUint64, api.OK}, {nat.Nat{full, full, 0, 0, 0}, math.MaxUint64, api.OK},
		{power(64), 0, api.ErrOver}, {nat.Nat{5, 6, 1}, 0, api.ErrOver}, {nat.Nat{5, 6, 0, 1}, 0, api.ErrOver}, {power(nat.MostBits), 0, api.ErrOver},
	} {
		if got, e := c.a.Word(); got != c.want || e != c.e {
			t.Errorf("Word of %x: %x, %d, want %x, %d", c.a, got, e, c.want, c.e)
		}
	}
}

func TestLenAndZeros(t *testing.T) {
	for _, a := range append(samples(), nat.Nat{0}, nat.Nat{0, 0, 0}, nat.Nat{0, 0, 8, 0, 0}, power(nat.MostBits), ones(nat.MostBits)) {
		want := asBig(a)
		if got := a.Len(); got != want.BitLen() {
			t.Errorf("Len of %x: %d", a, got)
		}
		if got := a.Zeros(); got != int(want.TrailingZeroBits()) {
			t.Errorf("Zeros of %x: %d", a, got)
		}
	}
}

func TestBit(t *testing.T) {
	for _, a := range samples() {
		want := asBig(a)
		for i := range 32*len(a) + 70 {
			if got := a.Bit(i); got != int(want.Bit(i)) {
				t.Errorf("bit %d of %x: %d", i, a, got)
			}
		}
		for _, i := range []int{-1, -32, -33, math.MinInt, math.MaxInt} {
			if got := a.Bit(i); got != 0 {
				t.Errorf("bit %d of %x: %d", i, a, got)
			}
		}
	}
}

func TestCmp(t *testing.T) {
	all := append(samples(), nat.Nat{0, 0}, nat.Nat{1, 0, 0}, power(nat.MostBits), ones(nat.MostBits))
	for _, a := range all {
		for _, b := range all {
			if got := nat.Cmp(a, b); got != asBig(a).Cmp(asBig(b)) {
				t.Errorf("Cmp(%x, %x): %d", a, b, got)
			}
		}
	}
}

// P1.2

func TestAdd(t *testing.T) {
	all := append(samples(), ones(nat.MostBits), power(3*nat.MostBits))
	for _, a := range all {
		for _, b := range all {
			checkTold(t, "sum", nat.Add(a, b), new(big.Int).Add(asBig(a), asBig(b)))
		}
	}
	if got := nat.Add(nat.Nat{1}, nat.Nat{full, full, full, 0}); !slices.Equal(got, nat.Nat{0, 0, 0, 1}) {
		t.Errorf("a carry over several parts: %x", got)
	}
}

func TestSub(t *testing.T) {
	all := append(samples(), ones(nat.MostBits), power(3*nat.MostBits))
	for _, a := range all {
		for _, b := range all {
			got, e := nat.Sub(a, b)
			want := new(big.Int).Sub(asBig(a), asBig(b))
			if want.Sign() < 0 {
				if len(got) != 0 || e != api.ErrRange {
					t.Errorf("Sub(%x, %x): %x, %d", a, b, got, e)
				}
				continue
			}
			if e != api.OK {
				t.Errorf("Sub(%x, %x): error %d", a, b, e)
			}
			checkTold(t, "difference", got, want)
		}
	}
	if got, e := nat.Sub(nat.Nat{0, 0, 0, 1}, nat.Nat{1, 0, 0, 0, 0}); !slices.Equal(got, nat.Nat{full, full, full}) || e != api.OK {
		t.Errorf("a borrow over several parts: %x, %d", got, e)
	}
	if got, e := nat.Sub(nat.Of(1<<32), nat.Of(1)); !slices.Equal(got, nat.Nat{full}) || e != api.OK {
		t.Errorf("the chapter's example: %x, %d", got, e)
	}
}

func TestMul(t *testing.T) {
	half := nat.MostBits / 2
	all := append(samples(), ones(1000), ones(half), power(half-1))
	for _, a := range all {
		for _, b := range all {
			got, e := nat.Mul(a, b)
			if e != api.OK {
				t.Errorf("Mul(%x, %x): error %d", a, b, e)
			}
			checkTold(t, "product", got, new(big.Int).Mul(asBig(a), asBig(b)))
		}
	}
}

func TestMulOver(t *testing.T) {
	const most = nat.MostBits
	for _, c := range []struct {
		a, b nat.Nat
		e    api.Errno
	}{
		{ones(most / 2), ones(most / 2), api.OK}, {ones(most/2 + 1), ones(most / 2), api.ErrOver}, {power(most / 2), power(most/2 - 1), api.ErrOver},
		{ones(most - 1), nat.Nat{1, 0, 0}, api.OK}, {ones(most), nat.Nat{1}, api.ErrOver}, {nat.Nat{1}, ones(most), api.ErrOver},
		// Both lengths count, though the product is 0.
		{ones(most), nil, api.OK}, {power(most), nil, api.ErrOver}, {nat.Nat{0, 0}, power(most), api.ErrOver},
		// Parts 0 at the end don't count.
		{append(nat.Nat{3}, make(nat.Nat, most)...), append(nat.Nat{5}, make(nat.Nat, most)...), api.OK},
	} {
		got, e := nat.Mul(c.a, c.b)
		if e != c.e || e != api.OK && len(got) != 0 {
			t.Errorf("lengths %d and %d: %d parts, error %d, want %d", c.a.Len(), c.b.Len(), len(got), e, c.e)
		}
		if e == api.OK {
			checkTold(t, "product", got, new(big.Int).Mul(asBig(c.a), asBig(c.b)))
		}
	}
}

// P1.3

var shifts = []int{0, 1, 5, 31, 32, 33, 63, 64, 65, 100, 160, 161, 1000}

func TestLeft(t *testing.T) {
	for _, a := range samples() {
		for _, n := range shifts {
			got, e := a.Left(n)
			if e != api.OK {
				t.Errorf("%x to the left by %d: error %d", a, n, e)
			}
			checkTold(t, "left", got, new(big.Int).Lsh(asBig(a), uint(n)))
		}
	}
}

func TestLeftErrors(t *testing.T) {
	const most = nat.MostBits
	for _, c := range []struct {
		a nat.Nat
		n int
		e api.Errno
	}{
		{nat.Nat{1}, -1, api.ErrArg}, {nil, -1, api.ErrArg}, {power(most), -1, api.ErrArg}, {nat.Nat{1}, math.MinInt, api.ErrArg}, {power(most), math.MinInt, api.ErrArg},
		{nat.Nat{1}, most - 1, api.OK}, {nat.Nat{1}, most, api.ErrOver}, {nat.Nat{1}, math.MaxInt, api.ErrOver}, {power(40), math.MaxInt - 40, api.ErrOver},
		{nat.Nat{3, 0, 0}, most - 2, api.OK}, {nat.Nat{3, 0, 0}, most - 1, api.ErrOver},
		{ones(most), 0, api.OK}, {ones(most), 1, api.ErrOver}, {power(most), 0, api.ErrOver},
		{nil, 0, api.OK}, {nil, most + 1, api.OK}, {nat.Nat{0, 0}, math.MaxInt, api.OK},
	} {
		got, e := c.a.Left(c.n)
		if e != c.e || e != api.OK && len(got) != 0 {
			t.Errorf("length %d by %d: %d parts, error %d, want %d", c.a.Len(), c.n, len(got), e, c.e)
		}
		if c.a.Len() == 0 && len(got) != 0 {
			t.Errorf("0 by %d: %x", c.n, got)
		}
		if e == api.OK && c.a.Len() > 0 {
			checkTold(t, "left", got, new(big.Int).Lsh(asBig(c.a), uint(c.n)))
		}
	}
}

func TestRight(t *testing.T) {
	for _, a := range append(samples(), power(3*nat.MostBits), nat.Nat{0, 0, 4, 0}) {
		for _, n := range shifts {
			got, lost := a.Right(n)
			want := new(big.Int).Rsh(asBig(a), uint(n))
			checkTold(t, "right", got, want)
			if wantLost := want.Lsh(want, uint(n)).Cmp(asBig(a)) != 0; lost != wantLost {
				t.Errorf("%x to the right by %d: lost %v", a, n, lost)
			}
		}
		for _, n := range []int{-1, -32, math.MinInt} {
			got, lost := a.Right(n)
			checkTold(t, "right by less than 0", got, asBig(a))
			if lost {
				t.Errorf("%x to the right by %d: lost", a, n)
			}
		}
		if got, lost := a.Right(math.MaxInt); len(got) != 0 || lost != (asBig(a).Sign() != 0) {
			t.Errorf("%x by the greatest: %x, %v", a, got, lost)
		}
	}
	if got, lost := nat.Of(5).Right(1); !slices.Equal(got, nat.Nat{2}) || !lost {
		t.Errorf("the chapter's example: %x, %v", got, lost)
	}
}

// P1.4

func TestWhatFollows(t *testing.T) {
	for _, a := range samples() {
		for _, n := range shifts {
			left, _ := a.Left(n)
			if back, lost := left.Right(n); nat.Cmp(back, a) != 0 || lost {
				t.Errorf("%x to the left by %d and back: %x, %v", a, n, back, lost)
			}
		}
		for _, b := range samples() {
			sum := nat.Add(a, b)
			if back, e := nat.Sub(sum, b); nat.Cmp(back, a) != 0 || e != api.OK {
				t.Errorf("%x and %x, less it: %x, %d", a, b, back, e)
			}
			if !slices.Equal(sum, nat.Add(b, a)) {
				t.Errorf("the sum of %x and %x turned about", a, b)
			}
			product, _ := nat.Mul(a, b)
			if turned, _ := nat.Mul(b, a); !slices.Equal(product, turned) {
				t.Errorf("the product of %x and %x turned about", a, b)
			}
		}
	}
}

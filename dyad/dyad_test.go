package dyad_test

import (
	"encoding/binary"
	"math"
	"math/big"
	"slices"
	"testing"

	"slipstick/api"
	"slipstick/dyad"
	"slipstick/nat"
)

const (
	full      = math.MaxUint32
	mostLen   = 4096
	mostPlace = 8192
)

// power is 2^n, made without package nat.
func power(n int) nat.Nat {
	a := make(nat.Nat, n/32+1)
	a[n/32] = 1 << (n % 32)
	return a
}

// ones is 2^n less 1.
func ones(n int) nat.Nat {
	a := make(nat.Nat, n/32+1)
	for i := range n {
		a[i/32] |= 1 << (i % 32)
	}
	return a
}

// odd is 2^n and 1.
func odd(n int) nat.Nat {
	a := power(n)
	a[0] |= 1
	return a
}

// number is N times 2^E above 0.
func number(n nat.Nat, e int) dyad.Dyad { return dyad.Dyad{N: n, E: e} }

// below is the number of the other sign.
func below(a dyad.Dyad) dyad.Dyad { return dyad.Dyad{Neg: !a.Neg, N: a.N, E: a.E} }

// samples are numbers of both signs that may be taken, plain and not, at the limits' edges and within.
func samples() []dyad.Dyad {
	sizes := []nat.Nat{nil, {0, 0}, {1}, {3, 0, 0}, {12}, {0, 0, 8, 0}, {full, full}, ones(2048), odd(2048), ones(mostLen), power(mostLen - 1), odd(mostLen - 1)}
	places := []int{-mostPlace, 1 - mostPlace, -4097, -33, 0, 1, 4096, mostPlace}
	var all []dyad.Dyad
	for _, n := range sizes {
		for _, e := range places {
			all = append(all, number(n, e), below(number(n, e)))
		}
	}
	return all
}

// few are numbers near to each other, so that sums and products of three are told.
func few() []dyad.Dyad {
	all := []dyad.Dyad{{}, {Neg: true, N: nat.Nat{0}, E: 7}}
	for _, n := range []nat.Nat{{1}, {3, 0}, {12}, {full, full}, {0, 5}, ones(200)} {
		for _, e := range []int{-70, -1, 0, 33} {
			all = append(all, number(n, e), below(number(n, e)))
		}
	}
	return all
}

// outside are numbers that may not be taken.
func outside() []dyad.Dyad {
	return []dyad.Dyad{
		number(power(mostLen), 0), number(ones(mostLen+1), 0), number(odd(mostLen), -5), below(number(power(mostLen), 0)), number(power(5*mostLen), -mostPlace),
		number(nat.Nat{1}, mostPlace+1), number(nat.Nat{1}, -mostPlace-1), below(number(nat.Nat{1}, mostPlace+1)), number(nat.Nat{2}, -mostPlace-1),
		number(nat.Nat{1}, math.MaxInt), number(nat.Nat{1}, math.MinInt), number(nat.Nat{4}, math.MaxInt),
		// The limits are those of the number as it stands: 0 is none beside.
		number(nil, mostPlace+1), number(nat.Nat{0, 0}, -mostPlace-1), {Neg: true, E: math.MaxInt}, number(nil, math.MinInt),
		number(power(mostLen), math.MaxInt),
	}
}

// exact says N, with its sign, in the library's own way.
func exact(a dyad.Dyad) *big.Int {
	var bytes []byte
	for _, part := range slices.Backward(a.N) {
		bytes = binary.BigEndian.AppendUint32(bytes, part)
	}
	n := new(big.Int).SetBytes(bytes)
	if a.Neg {
		n.Neg(n)
	}
	return n
}

// plainOf is n times 2^e in plain form, made by the library alone.
func plainOf(n *big.Int, e int) dyad.Dyad {
	if n.Sign() == 0 {
		return dyad.Dyad{}
	}
	size := new(big.Int).Abs(n)
	zeros := int(size.TrailingZeroBits())
	size.Rsh(size, uint(zeros))
	a := dyad.Dyad{Neg: n.Sign() < 0, N: make(nat.Nat, (size.BitLen()+31)/32), E: e + zeros}
	bytes := size.FillBytes(make([]byte, 4*len(a.N)))
	for i := range a.N {
		a.N[i] = binary.BigEndian.Uint32(bytes[len(bytes)-4*i-4:])
	}
	return a
}

// sum is the exact sum, of the lower place of both.
func sum(a, b dyad.Dyad) (*big.Int, int) {
	at := min(a.E, b.E)
	x := new(big.Int).Lsh(exact(a), uint(a.E-at))
	y := new(big.Int).Lsh(exact(b), uint(b.E-at))
	return x.Add(x, y), at
}

// equal holds answers against each other part by part: plain forms of one number are the same.
func equal(a, b dyad.Dyad) bool {
	return a.Neg == b.Neg && a.E == b.E && slices.Equal(a.N, b.N)
}

// short says a number so that a message stays readable.
func short(a dyad.Dyad) string {
	text := exact(a).Text(16)
	if len(text) > 40 {
		text = text[:20] + ".." + text[len(text)-10:]
	}
	return text + "p" + big.NewInt(int64(a.E)).String()
}

// checkTold holds a sum or a product against the exact one, and against the limits of what may be told.
func checkTold(t *testing.T, what string, a, b, got dyad.Dyad, e api.Errno, want dyad.Dyad) {
	t.Helper()
	wantError := api.OK
	if exact(want).BitLen() > mostLen || want.E < -mostPlace || want.E > mostPlace {
		want, wantError = dyad.Dyad{}, api.ErrOver
	}
	if e != wantError || !equal(got, want) {
		t.Errorf("%s of %s and %s: %s, %d, want %s, %d", what, short(a), short(b), short(got), e, short(want), wantError)
	}
}

// P2.1

func TestOf(t *testing.T) {
	for _, c := range []struct {
		n    int64
		want dyad.Dyad
	}{
		{0, dyad.Dyad{}}, {1, number(nat.Nat{1}, 0)}, {-1, below(number(nat.Nat{1}, 0))}, {12, number(nat.Nat{3}, 2)}, {-12, below(number(nat.Nat{3}, 2))},
		{1 << 32, number(nat.Nat{1}, 32)}, {1<<32 + 1, number(nat.Nat{1, 1}, 0)}, {math.MaxInt64, number(nat.Nat{full, full >> 1}, 0)},
		{math.MinInt64, below(number(nat.Nat{1}, 63))}, {math.MinInt64 + 1, below(number(nat.Nat{full, full >> 1}, 0))},
	} {
		if got := dyad.Of(c.n); !equal(got, c.want) {
			t.Errorf("Of(%d): %s", c.n, short(got))
		}
	}
}

func TestPlain(t *testing.T) {
	for _, a := range samples() {
		got, e := dyad.Plain(a)
		if want := plainOf(exact(a), a.E); e != api.OK || !equal(got, want) {
			t.Errorf("Plain of %s: %s, %d", short(a), short(got), e)
		}
	}
	for _, c := range []struct{ a, want dyad.Dyad }{
		{number(nat.Nat{12}, 3), number(nat.Nat{3}, 5)}, // the chapter's example
		{dyad.Dyad{Neg: true}, dyad.Dyad{}},
		{dyad.Dyad{Neg: true, N: nat.Nat{0, 0}, E: -8}, dyad.Dyad{}},
		{number(nat.Nat{0}, mostPlace), dyad.Dyad{}},
		{number(nat.Nat{5, 0, 0}, -1), number(nat.Nat{5}, -1)},
		{number(append(ones(mostLen), make(nat.Nat, 1000)...), 0), number(ones(mostLen)[:mostLen/32], 0)},
		// Plain forms may have an E that may not be taken.
		{number(nat.Nat{2}, mostPlace), number(nat.Nat{1}, mostPlace+1)},
		{number(power(mostLen-1), mostPlace), number(nat.Nat{1}, mostPlace+mostLen-1)},
	} {
		if got, e := dyad.Plain(c.a); e != api.OK || !equal(got, c.want) {
			t.Errorf("Plain of %s: %s, %d, want %s", short(c.a), short(got), e, short(c.want))
		}
	}
}

// A number that may not be taken is told ahead of whatever else is wrong, beside zero values.
func TestMayNotBeTaken(t *testing.T) {
	others := []dyad.Dyad{{}, number(nat.Nat{1}, 0), below(number(ones(mostLen), mostPlace)), number(nat.Nat{3}, -mostPlace), number(nat.Nat{1}, mostPlace+1)}
	for _, a := range outside() {
		if got, e := dyad.Plain(a); e != api.ErrRange || !equal(got, dyad.Dyad{}) {
			t.Errorf("Plain of %s: %s, %d", short(a), short(got), e)
		}
		if got, e := dyad.Top(a); e != api.ErrRange || got != 0 {
			t.Errorf("Top of %s: %d, %d", short(a), got, e)
		}
		for _, at := range []int{0, -mostPlace, mostPlace, mostPlace + 1, -mostPlace - 1, math.MinInt} {
			if got, lost, e := dyad.Floor(a, at); e != api.ErrRange || lost || !equal(got, dyad.Dyad{}) {
				t.Errorf("Floor of %s at %d: %s, %v, %d", short(a), at, short(got), lost, e)
			}
		}
		if dyad.Same(a, a) {
			t.Errorf("%s is the same as itself", short(a))
		}
		for _, b := range others {
			checkPairRefused(t, a, b)
			checkPairRefused(t, b, a)
		}
	}
}

func checkPairRefused(t *testing.T, a, b dyad.Dyad) {
	t.Helper()
	for name, call := range pairCalls() {
		if got, e := call(a, b); e != api.ErrRange || !equal(got, dyad.Dyad{}) {
			t.Errorf("%s of %s and %s: %s, %d", name, short(a), short(b), short(got), e)
		}
	}
	if got, e := dyad.Cmp(a, b); e != api.ErrRange || got != 0 {
		t.Errorf("Cmp of %s and %s: %d, %d", short(a), short(b), got, e)
	}
	if dyad.Same(a, b) {
		t.Errorf("%s and %s are the same", short(a), short(b))
	}
}

// pairCalls are the calls of two numbers that answer one.
func pairCalls() map[string]func(a, b dyad.Dyad) (dyad.Dyad, api.Errno) {
	return map[string]func(a, b dyad.Dyad) (dyad.Dyad, api.Errno){"Add": dyad.Add, "Sub": dyad.Sub, "Mul": dyad.Mul}
}

// P2.1 (ErrOver) and P2.2

func TestSumsAndProducts(t *testing.T) {
	for _, a := range samples() {
		for _, b := range samples() {
			got, e := dyad.Add(a, b)
			checkTold(t, "Add", a, b, got, e, plainOf(sum(a, b)))
			got, e = dyad.Sub(a, b)
			checkTold(t, "Sub", a, b, got, e, plainOf(sum(a, below(b))))
			got, e = dyad.Mul(a, b)
			checkTold(t, "Mul", a, b, got, e, plainOf(new(big.Int).Mul(exact(a), exact(b)), a.E+b.E))
		}
	}
}

func TestSumsAtTheEdges(t *testing.T) {
	one, top, low := number(nat.Nat{1}, 0), number(nat.Nat{1}, mostPlace), number(nat.Nat{1}, -mostPlace)
	half := below(number(nat.Nat{1}, -1))
	for i, c := range []struct {
		a, b, want dyad.Dyad
		e          api.Errno
	}{
		{one, half, number(nat.Nat{1}, -1), api.OK}, // the chapter's example
		{half, one, number(nat.Nat{1}, -1), api.OK},
		// Sums of 0, of numbers far from it and near it.
		{top, below(top), dyad.Dyad{}, api.OK}, {low, below(low), dyad.Dyad{}, api.OK}, {number(nat.Nat{12}, 0), below(number(nat.Nat{3}, 2)), dyad.Dyad{}, api.OK},
		{number(power(mostLen-1), mostPlace), below(number(power(mostLen-1), mostPlace)), dyad.Dyad{}, api.OK},
		{dyad.Dyad{Neg: true}, dyad.Dyad{Neg: true, N: nat.Nat{0}, E: 3}, dyad.Dyad{}, api.OK},
		// N of 4096 bits, and one more.
		{number(nat.Nat{1}, mostLen-1), one, number(odd(mostLen-1), 0), api.OK}, {number(nat.Nat{1}, mostLen), one, dyad.Dyad{}, api.ErrOver},
		{number(nat.Nat{1}, mostLen), below(one), number(ones(mostLen)[:mostLen/32], 0), api.OK}, {number(nat.Nat{1}, mostLen+1), below(one), dyad.Dyad{}, api.ErrOver},
		{number(ones(mostLen), 0), one, number(nat.Nat{1}, mostLen), api.OK}, {number(ones(mostLen), 0), number(nat.Nat{2}, 0), dyad.Dyad{}, api.ErrOver},
		{number(ones(mostLen), 0), number(ones(mostLen), 0), number(ones(mostLen)[:mostLen/32], 1), api.OK},
		// E of 8192, and one beyond.
		{number(nat.Nat{1}, mostPlace-1), number(nat.Nat{1}, mostPlace-1), top, api.OK}, {top, top, dyad.Dyad{}, api.ErrOver},
		{number(nat.Nat{3}, mostPlace), number(nat.Nat{2}, mostPlace), number(nat.Nat{5}, mostPlace), api.OK}, {number(nat.Nat{3}, mostPlace), number(nat.Nat{3}, mostPlace), dyad.Dyad{}, api.ErrOver},
		{number(nat.Nat{6}, mostPlace), below(number(nat.Nat{5}, mostPlace)), top, api.OK}, {number(nat.Nat{2}, mostPlace), dyad.Dyad{}, dyad.Dyad{}, api.ErrOver}, {top, dyad.Dyad{}, top, api.OK},
		{dyad.Dyad{}, number(power(mostLen-1), mostPlace), dyad.Dyad{}, api.ErrOver}, {dyad.Dyad{}, low, low, api.OK}, {low, low, number(nat.Nat{1}, 1-mostPlace), api.OK},
		// As far from each other as numbers can be.
		{top, low, dyad.Dyad{}, api.ErrOver}, {number(power(mostLen-1), mostPlace), below(low), dyad.Dyad{}, api.ErrOver}, {below(number(ones(mostLen), mostPlace)), number(ones(mostLen), -mostPlace), dyad.Dyad{}, api.ErrOver},
	} {
		if got, e := dyad.Add(c.a, c.b); e != c.e || !equal(got, c.want) {
			t.Errorf("case %d: %s, %d, want %s, %d", i, short(got), e, short(c.want), c.e)
		}
		if got, e := dyad.Sub(c.a, below(c.b)); e != c.e || !equal(got, c.want) {
			t.Errorf("case %d, less: %s, %d, want %s, %d", i, short(got), e, short(c.want), c.e)
		}
	}
}

func TestProductsAtTheEdges(t *testing.T) {
	one, top, low := number(nat.Nat{1}, 0), number(nat.Nat{1}, mostPlace), number(nat.Nat{1}, -mostPlace)
	for i, c := range []struct {
		a, b, want dyad.Dyad
		e          api.Errno
	}{
		{below(number(nat.Nat{3}, 1)), number(nat.Nat{10}, -4), below(number(nat.Nat{15}, -2)), api.OK}, {below(one), below(one), one, api.OK},
		{below(top), dyad.Dyad{}, dyad.Dyad{}, api.OK}, {number(nat.Nat{0}, mostPlace), number(power(mostLen-1), mostPlace), dyad.Dyad{}, api.OK},
		{top, low, one, api.OK}, {top, one, top, api.OK}, {top, number(nat.Nat{1}, 1), dyad.Dyad{}, api.ErrOver}, {number(nat.Nat{1}, 1), number(nat.Nat{1}, mostPlace-1), top, api.OK},
		{low, one, low, api.OK}, {low, number(nat.Nat{1}, -1), dyad.Dyad{}, api.ErrOver}, {low, number(nat.Nat{2}, -1), low, api.OK}, {low, low, dyad.Dyad{}, api.ErrOver}, {top, top, dyad.Dyad{}, api.ErrOver},
		{number(nat.Nat{2}, mostPlace), one, dyad.Dyad{}, api.ErrOver}, {number(nat.Nat{2}, mostPlace), number(nat.Nat{1}, -1), top, api.OK},
		// Together with 2^n and 1, a number 2^n less 1 makes one of 2n bits 1.
		{number(ones(mostLen/2), 0), number(odd(mostLen/2), 0), number(ones(mostLen)[:mostLen/32], 0), api.OK}, {number(odd(mostLen/2), 0), number(odd(mostLen/2), 0), dyad.Dyad{}, api.ErrOver},
		{number(ones(mostLen), 0), number(nat.Nat{1, 0}, -3), number(ones(mostLen)[:mostLen/32], -3), api.OK}, {number(ones(mostLen), 0), number(nat.Nat{3}, 0), dyad.Dyad{}, api.ErrOver}, {number(ones(mostLen), 0), number(ones(mostLen), 0), dyad.Dyad{}, api.ErrOver},
		// Bits 0 at the end don't count.
		{number(power(mostLen-1), 0), number(power(mostLen-1), 0), number(nat.Nat{1}, 2*mostLen-2), api.OK}, {number(power(mostLen-1), 0), below(number(ones(mostLen), 0)), below(number(ones(mostLen)[:mostLen/32], mostLen-1)), api.OK},
	} {
		if got, e := dyad.Mul(c.a, c.b); e != c.e || !equal(got, c.want) {
			t.Errorf("case %d: %s, %d, want %s, %d", i, short(got), e, short(c.want), c.e)
		}
	}
}

func TestCmpAndSame(t *testing.T) {
	for _, a := range samples() {
		for _, b := range samples() {
			difference, _ := sum(a, below(b))
			if got, e := dyad.Cmp(a, b); e != api.OK || got != difference.Sign() {
				t.Errorf("Cmp of %s and %s: %d, %d", short(a), short(b), got, e)
			}
			if got := dyad.Same(a, b); got != (difference.Sign() == 0) {
				t.Errorf("Same of %s and %s: %v", short(a), short(b), got)
			}
		}
	}
	// Numbers of one top that part at the last bit.
	a, b := number(ones(mostLen), 0), number(ones(mostLen-1), 1)
	for _, c := range []struct {
		a, b dyad.Dyad
		want int
	}{{a, b, 1}, {b, a, -1}, {below(a), below(b), -1}, {below(b), below(a), 1}, {below(a), b, -1}, {a, below(b), 1}} {
		if got, e := dyad.Cmp(c.a, c.b); got != c.want || e != api.OK || dyad.Same(c.a, c.b) {
			t.Errorf("Cmp of %s and %s: %d, %d", short(c.a), short(c.b), got, e)
		}
	}
	if !dyad.Same(dyad.Dyad{Neg: true, E: 5}, dyad.Dyad{N: nat.Nat{0, 0}}) || !dyad.Same(number(nat.Nat{12}, 0), number(nat.Nat{3, 0}, 2)) {
		t.Error("the same number in two forms")
	}
}

func TestTop(t *testing.T) {
	for _, a := range samples() {
		got, e := dyad.Top(a)
		if exact(a).Sign() == 0 {
			if got != 0 || e != api.ErrArg {
				t.Errorf("Top of 0, %s: %d, %d", short(a), got, e)
			}
			continue
		}
		if got != exact(a).BitLen()-1+a.E || e != api.OK {
			t.Errorf("Top of %s: %d, %d", short(a), got, e)
		}
	}
	for _, c := range []struct {
		a    dyad.Dyad
		want int
	}{
		{number(nat.Nat{1}, 0), 0}, {number(nat.Nat{7}, 0), 2}, {below(number(nat.Nat{8}, 0)), 3}, {number(nat.Nat{1, 0}, -1), -1}, {number(nat.Nat{3}, -mostPlace), 1 - mostPlace}, {number(ones(mostLen), mostPlace), mostPlace + mostLen - 1},
	} {
		if got, e := dyad.Top(c.a); got != c.want || e != api.OK {
			t.Errorf("Top of %s: %d, %d", short(c.a), got, e)
		}
	}
}

// P2.3

func TestFloor(t *testing.T) {
	for _, a := range samples() {
		for _, at := range []int{-mostPlace, -mostPlace + 1, -4097, -33, -1, 0, 1, 2, 31, 32, 33, 2048, 4095, 4096, mostPlace - 1, mostPlace} {
			want, lost := exact(a), false
			wantAt := a.E
			if at > a.E {
				// Quo goes towards 0.
				place := new(big.Int).Lsh(big.NewInt(1), uint(at-a.E))
				rest := new(big.Int)
				want.QuoRem(want, place, rest)
				wantAt, lost = at, rest.Sign() != 0
			}
			got, gotLost, e := dyad.Floor(a, at)
			if !equal(got, plainOf(want, wantAt)) || gotLost != lost || e != api.OK {
				t.Errorf("Floor of %s at %d: %s, %v, %d", short(a), at, short(got), gotLost, e)
			}
		}
	}
}

func TestFloorAtTheEdges(t *testing.T) {
	for i, c := range []struct {
		a    dyad.Dyad
		at   int
		want dyad.Dyad
		lost bool
	}{
		{number(nat.Nat{12}, 0), 2, number(nat.Nat{3}, 2), false}, {number(nat.Nat{12}, 0), 3, number(nat.Nat{1}, 3), true}, {number(nat.Nat{12}, 0), 4, dyad.Dyad{}, true},
		{below(number(nat.Nat{12}, 0)), 3, below(number(nat.Nat{1}, 3)), true}, {below(number(nat.Nat{12}, 0)), 4, dyad.Dyad{}, true}, {below(number(nat.Nat{13}, 0)), 1, below(number(nat.Nat{3}, 2)), true},
		{number(nat.Nat{1}, mostPlace), mostPlace, number(nat.Nat{1}, mostPlace), false}, {number(nat.Nat{1}, mostPlace-1), mostPlace, dyad.Dyad{}, true}, {number(nat.Nat{2, 0}, mostPlace-1), mostPlace, number(nat.Nat{1}, mostPlace), false},
		{number(nat.Nat{7}, mostPlace-1), mostPlace, number(nat.Nat{3}, mostPlace), true}, {number(nat.Nat{5}, -mostPlace), -mostPlace, number(nat.Nat{5}, -mostPlace), false}, {number(nat.Nat{5}, -mostPlace), 1 - mostPlace, number(nat.Nat{1}, 2-mostPlace), true},
		{number(nat.Nat{1}, -mostPlace), mostPlace, dyad.Dyad{}, true}, {number(nat.Nat{0}, -5), mostPlace, dyad.Dyad{}, false}, {dyad.Dyad{Neg: true}, 1, dyad.Dyad{}, false}, {dyad.Dyad{Neg: true, E: 3}, -mostPlace, dyad.Dyad{}, false},
		// What is told may have an E beyond: it is no sum and no product.
		{number(nat.Nat{12}, mostPlace), mostPlace, number(nat.Nat{3}, mostPlace+2), false}, {number(power(mostLen-1), mostPlace), -mostPlace, number(nat.Nat{1}, mostPlace+mostLen-1), false}, {number(ones(mostLen), 0), mostLen - 1, number(nat.Nat{1}, mostLen-1), true},
	} {
		got, lost, e := dyad.Floor(c.a, c.at)
		if !equal(got, c.want) || lost != c.lost || e != api.OK {
			t.Errorf("case %d: %s, %v, %d", i, short(got), lost, e)
		}
	}
}

func TestFloorOfWrongPlaces(t *testing.T) {
	for _, a := range []dyad.Dyad{{}, {Neg: true, N: nat.Nat{0}}, number(nat.Nat{1}, 0), below(number(ones(mostLen), mostPlace)), number(nat.Nat{3}, -mostPlace)} {
		for _, at := range []int{mostPlace + 1, -mostPlace - 1, math.MaxInt, math.MinInt} {
			if got, lost, e := dyad.Floor(a, at); e != api.ErrArg || lost || !equal(got, dyad.Dyad{}) {
				t.Errorf("Floor of %s at %d: %s, %v, %d", short(a), at, short(got), lost, e)
			}
		}
	}
}

// P2.4

// must tells an answer that has no error.
func must(t *testing.T) func(a dyad.Dyad, e api.Errno) dyad.Dyad {
	return func(a dyad.Dyad, e api.Errno) dyad.Dyad {
		t.Helper()
		if e != api.OK {
			t.Fatalf("error %d", e)
		}
		return a
	}
}

func TestTurnedAbout(t *testing.T) {
	for _, a := range samples() {
		for _, b := range samples() {
			for _, call := range []func(a, b dyad.Dyad) (dyad.Dyad, api.Errno){dyad.Add, dyad.Mul} {
				x, e := call(a, b)
				y, f := call(b, a)
				if !equal(x, y) || e != f {
					t.Errorf("%s and %s turned about: %s, %d; %s, %d", short(a), short(b), short(x), e, short(y), f)
				}
			}
		}
	}
}

func TestWhatFollows(t *testing.T) {
	ok := must(t)
	for _, a := range few() {
		for _, b := range few() {
			if back := ok(dyad.Sub(ok(dyad.Add(a, b)), b)); !dyad.Same(back, a) {
				t.Errorf("%s and %s, less it: %s", short(a), short(b), short(back))
			}
			if back := ok(dyad.Add(ok(dyad.Sub(a, b)), b)); !dyad.Same(back, a) {
				t.Errorf("%s less %s, and it: %s", short(a), short(b), short(back))
			}
			if x, y := ok(dyad.Sub(a, b)), ok(dyad.Sub(b, a)); !dyad.Same(x, below(y)) {
				t.Errorf("%s less %s turned about: %s, %s", short(a), short(b), short(x), short(y))
			}
			for _, c := range few() {
				if x, y := ok(dyad.Mul(a, ok(dyad.Add(b, c)))), ok(dyad.Add(ok(dyad.Mul(a, b)), ok(dyad.Mul(a, c)))); !equal(x, y) {
					t.Errorf("%s times the sum of %s and %s: %s, %s", short(a), short(b), short(c), short(x), short(y))
				}
				if x, y := ok(dyad.Add(a, ok(dyad.Add(b, c)))), ok(dyad.Add(ok(dyad.Add(a, b)), c)); !equal(x, y) {
					t.Errorf("the sum of %s, %s and %s: %s, %s", short(a), short(b), short(c), short(x), short(y))
				}
				if x, y := ok(dyad.Mul(a, ok(dyad.Mul(b, c)))), ok(dyad.Mul(ok(dyad.Mul(a, b)), c)); !equal(x, y) {
					t.Errorf("the product of %s, %s and %s: %s, %s", short(a), short(b), short(c), short(x), short(y))
				}
			}
		}
	}
}

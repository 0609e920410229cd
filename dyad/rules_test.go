package dyad_test

import (
	"slices"
	"testing"

	"slipstick/dyad"
	"slipstick/nat"
)

// numberCalls are those that answer a number, of two arguments or one.
func numberCalls() map[string]func(a, b dyad.Dyad) dyad.Dyad {
	return map[string]func(a, b dyad.Dyad) dyad.Dyad{
		"Plain":      func(a, b dyad.Dyad) dyad.Dyad { p, _ := dyad.Plain(a); return p },
		"Add":        func(a, b dyad.Dyad) dyad.Dyad { s, _ := dyad.Add(a, b); return s },
		"Sub":        func(a, b dyad.Dyad) dyad.Dyad { d, _ := dyad.Sub(a, b); return d },
		"Mul":        func(a, b dyad.Dyad) dyad.Dyad { p, _ := dyad.Mul(a, b); return p },
		"Floor low":  func(a, b dyad.Dyad) dyad.Dyad { f, _, _ := dyad.Floor(a, -mostPlace); return f },
		"Floor 0":    func(a, b dyad.Dyad) dyad.Dyad { f, _, _ := dyad.Floor(a, 0); return f },
		"Floor 3":    func(a, b dyad.Dyad) dyad.Dyad { f, _, _ := dyad.Floor(a, 3); return f },
		"Floor 33":   func(a, b dyad.Dyad) dyad.Dyad { f, _, _ := dyad.Floor(a, 33); return f },
		"Floor none": func(a, b dyad.Dyad) dyad.Dyad { f, _, _ := dyad.Floor(a, mostPlace+1); return f },
		"asked": func(a, b dyad.Dyad) dyad.Dyad {
			dyad.Cmp(a, b)
			dyad.Top(a)
			dyad.Same(a, b)
			return dyad.Dyad{}
		},
	}
}

// roomy lays a number with memory behind it, that a call could write into unseen.
func roomy(a dyad.Dyad) (dyad.Dyad, nat.Nat) {
	memory := append(slices.Clone(a.N), 0xaaaa, 0xbbbb, 0xcccc)
	return dyad.Dyad{Neg: a.Neg, N: memory[:len(a.N)], E: a.E}, memory
}

// scribble writes over all of a list's memory.
func scribble(a nat.Nat) {
	a = a[:cap(a)]
	for i := range a {
		a[i] ^= 0x5a5a5a5a
	}
}

// mixed are numbers, plain and not, and some that may not be taken.
func mixed() []dyad.Dyad {
	var all []dyad.Dyad
	for _, n := range []nat.Nat{{}, {0, 0}, {1}, {7, 0, 0}, {12}, {full, full, 0}, {0, 0, 1}, {1, 2, 3, 0}} {
		for _, e := range []int{-mostPlace, 0, 3, 32, mostPlace, mostPlace + 1} {
			all = append(all, number(n, e), below(number(n, e)))
		}
	}
	return append(all, number(ones(mostLen), 0), number(ones(mostLen+1), 0))
}

// R3: arguments stay as they were, and an answer shares nothing with them. What is told is plain.
func TestNothingShared(t *testing.T) {
	for name, call := range numberCalls() {
		for _, x := range mixed() {
			for _, y := range mixed() {
				a, behindA := roomy(x)
				b, behindB := roomy(y)
				wasA, wasB := slices.Clone(behindA), slices.Clone(behindB)
				got := call(a, b)
				kept := slices.Clone(got.N)
				if !equal(got, plainOf(exact(got), got.E)) {
					t.Errorf("%s of %s and %s: %s isn't plain", name, short(x), short(y), short(got))
				}
				if !slices.Equal(behindA, wasA) || !slices.Equal(behindB, wasB) {
					t.Fatalf("%s of %s and %s changed an argument", name, short(x), short(y))
				}
				scribble(behindA)
				scribble(behindB)
				if !slices.Equal(got.N, kept) {
					t.Errorf("%s of %s and %s: the answer goes with an argument", name, short(x), short(y))
				}
				wasA, wasB = slices.Clone(behindA), slices.Clone(behindB)
				scribble(got.N)
				if !slices.Equal(behindA, wasA) || !slices.Equal(behindB, wasB) {
					t.Errorf("%s of %s and %s: an argument goes with the answer", name, short(x), short(y))
				}
			}
		}
	}
}

// R3: the same number on both sides.
func TestOneArgumentTwice(t *testing.T) {
	a := dyad.Dyad{Neg: true, N: nat.Nat{6, 0}, E: 4}
	if got, _ := dyad.Add(a, a); !equal(got, below(number(nat.Nat{3}, 6))) {
		t.Errorf("a and a: %s", short(got))
	}
	if got, _ := dyad.Sub(a, a); !equal(got, dyad.Dyad{}) {
		t.Errorf("a less a: %s", short(got))
	}
	if got, _ := dyad.Mul(a, a); !equal(got, number(nat.Nat{9}, 10)) {
		t.Errorf("a times a: %s", short(got))
	}
	if !equal(a, dyad.Dyad{Neg: true, N: nat.Nat{6, 0}, E: 4}) {
		t.Errorf("a became %s", short(a))
	}
}

// R5: Of hands out new memory each time.
func TestOfIsNew(t *testing.T) {
	scribble(dyad.Of(-5).N)
	if got := dyad.Of(-5); !equal(got, below(number(nat.Nat{5}, 0))) {
		t.Errorf("%s", short(got))
	}
}

// R6: none and empty are one, as arguments.
func TestNoneAndEmpty(t *testing.T) {
	five := dyad.Of(5)
	for _, zero := range []dyad.Dyad{{}, {N: nat.Nat{}}, {Neg: true, N: nat.Nat{}}, {N: nat.Nat{0, 0, 0}, E: -1}} {
		for name, call := range numberCalls() {
			if got := call(zero, dyad.Dyad{}); !equal(got, dyad.Dyad{}) {
				t.Errorf("%s of %#v: %s", name, zero, short(got))
			}
		}
		if got, _ := dyad.Add(zero, five); !equal(got, five) {
			t.Errorf("%#v and 5: %s", zero, short(got))
		}
		if !dyad.Same(zero, dyad.Dyad{}) {
			t.Errorf("%#v isn't 0", zero)
		}
	}
}

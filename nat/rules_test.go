package nat_test

import (
	"slices"
	"testing"

	"slipstick/nat"
)

// calls are those that answer a number, of two arguments or one.
var calls = map[string]func(a, b nat.Nat) nat.Nat{
	"Add":        nat.Add,
	"Add turned": func(a, b nat.Nat) nat.Nat { return nat.Add(b, a) },
	"Sub":        func(a, b nat.Nat) nat.Nat { d, _ := nat.Sub(a, b); return d },
	"Sub turned": func(a, b nat.Nat) nat.Nat { d, _ := nat.Sub(b, a); return d },
	"Mul":        func(a, b nat.Nat) nat.Nat { p, _ := nat.Mul(a, b); return p },
	"Left 0":     func(a, b nat.Nat) nat.Nat { l, _ := a.Left(0); return l },
	"Left 1":     func(a, b nat.Nat) nat.Nat { l, _ := a.Left(1); return l },
	"Left 32":    func(a, b nat.Nat) nat.Nat { l, _ := a.Left(32); return l },
	"Left -1":    func(a, b nat.Nat) nat.Nat { l, _ := a.Left(-1); return l },
	"Right -1":   func(a, b nat.Nat) nat.Nat { r, _ := a.Right(-1); return r },
	"Right 0":    func(a, b nat.Nat) nat.Nat { r, _ := a.Right(0); return r },
	"Right 1":    func(a, b nat.Nat) nat.Nat { r, _ := a.Right(1); return r },
	"Right 32":   func(a, b nat.Nat) nat.Nat { r, _ := a.Right(32); return r },
	"asked": func(a, b nat.Nat) nat.Nat {
		a.Word()
		a.Len()
		a.Bit(3)
		a.Zeros()
		nat.Cmp(a, b)
		return nil
	},
}

// roomy lays a number with memory behind it, that a call could write into unseen.
func roomy(a nat.Nat) (number, memory nat.Nat) {
	memory = append(slices.Clone(a), 0xaaaa, 0xbbbb, 0xcccc)
	return memory[:len(a)], memory
}

// scribble writes over all of a number's memory.
func scribble(a nat.Nat) {
	a = a[:cap(a)]
	for i := range a {
		a[i] ^= 0x5a5a5a5a
	}
}

// R3: arguments stay as they were, and an answer shares nothing with them.
func TestNothingShared(t *testing.T) {
	numbers := []nat.Nat{{}, {0, 0}, {1}, {7, 0, 0}, {full, full, 0}, {0, 0, 1}, {1, 2, 3, 0}}
	for name, call := range calls {
		for _, x := range numbers {
			for _, y := range numbers {
				a, behindA := roomy(x)
				b, behindB := roomy(y)
				wasA, wasB := slices.Clone(behindA), slices.Clone(behindB)
				got := call(a, b)
				kept := slices.Clone(got)
				if !slices.Equal(behindA, wasA) || !slices.Equal(behindB, wasB) {
					t.Fatalf("%s of %x and %x changed an argument", name, x, y)
				}
				scribble(behindA)
				scribble(behindB)
				if !slices.Equal(got, kept) {
					t.Errorf("%s of %x and %x: the answer goes with an argument", name, x, y)
				}
				wasA, wasB = slices.Clone(behindA), slices.Clone(behindB)
				scribble(got)
				if !slices.Equal(behindA, wasA) || !slices.Equal(behindB, wasB) {
					t.Errorf("%s of %x and %x: an argument goes with the answer", name, x, y)
				}
			}
		}
	}
}

// R3: the same number on both sides.
func TestOneArgumentTwice(t *testing.T) {
	a := nat.Nat{full, full, 0}
	if d, _ := nat.Sub(a, a); len(d) != 0 {
		t.Errorf("a less a: %x", d)
	}
	if got := nat.Add(a, a); !slices.Equal(got, nat.Nat{full - 1, full, 1}) {
		t.Errorf("a and a: %x", got)
	}
	if got, _ := nat.Mul(a, a); !slices.Equal(got, nat.Nat{1, 0, full - 1, full}) {
		t.Errorf("a times a: %x", got)
	}
	if !slices.Equal(a, nat.Nat{full, full, 0}) {
		t.Errorf("a became %x", a)
	}
}

// R5: Of hands out new memory each time.
func TestOfIsNew(t *testing.T) {
	scribble(nat.Of(5))
	if got := nat.Of(5); !slices.Equal(got, nat.Nat{5}) {
		t.Errorf("%x", got)
	}
}

// R6: none and empty are one, as arguments.
func TestNoneAndEmpty(t *testing.T) {
	var none nat.Nat
	for _, zero := range []nat.Nat{none, {}, {0}, {0, 0, 0}} {
		if zero.Len() != 0 || zero.Zeros() != 0 || zero.Bit(0) != 0 || nat.Cmp(zero, none) != 0 || nat.Cmp(none, zero) != 0 {
			t.Errorf("%#v isn't 0", zero)
		}
		for name, call := range calls {
			if got := call(zero, none); len(got) != 0 {
				t.Errorf("%s of %#v: %x", name, zero, got)
			}
		}
	}
}

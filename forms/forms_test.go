package forms_test

import (
	"math"
	"testing"

	"slipstick/api"
	"slipstick/format"
	"slipstick/forms"
)

// The formats are known, and none that differs from them in a part.
func TestKnown(t *testing.T) {
	for _, bits := range []int{16, 32, 64} {
		f, e := format.Of(bits)
		if e != api.OK || !forms.Known(f) {
			t.Errorf("%d bits, %v, %d: not known", bits, f, e)
		}
		for _, v := range []int{math.MinInt, -1, 0, 1, 5, 11, 16, 24, 53, 64, 128, math.MaxInt} {
			for _, g := range []format.Form{{Bits: v, P: f.P, Wide: f.Wide}, {Bits: f.Bits, P: v, Wide: f.Wide}, {Bits: f.Bits, P: f.P, Wide: v}} {
				if g != f && forms.Known(g) {
					t.Errorf("%v is known", g)
				}
			}
		}
	}
	if forms.Known(format.Form{}) {
		t.Error("no form is known")
	}
}

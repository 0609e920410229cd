// Package forms tells which forms are formats: of no others the layers that lay gates know what a word is.
package forms

import (
	"slipstick/api"
	"slipstick/format"
)

// Known tells whether format.Of tells a form.
func Known(f format.Form) bool {
	g, e := format.Of(f.Bits)
	return e == api.OK && g == f
}

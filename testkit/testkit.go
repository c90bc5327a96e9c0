// Package testkit makes values for the tests of other packages.
package testkit

import (
	"relucert/api"
	"relucert/linear"
	"relucert/rational"
)

// Frac returns a quotient; b must not be 0.
func Frac(a, b int) api.Rat {
	x, _ := rational.Frac(a, b)
	return x
}

// Rats returns a list of integers.
func Rats(x ...int) []api.Rat {
	var l []api.Rat
	for _, n := range x {
		l = append(l, rational.Of(n))
	}
	return l
}

// Form returns the form with a text, which must be right.
func Form(s string) api.Affine {
	f, _, e := linear.Parse(s)
	if e != api.OK {
		panic("malformed form: " + s)
	}
	return f
}

// Forms returns the forms with some texts.
func Forms(l ...string) []api.Affine {
	var out []api.Affine
	for _, s := range l {
		out = append(out, Form(s))
	}
	return out
}

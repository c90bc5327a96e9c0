package graph

import (
	"relucert/api"
	"relucert/linear"
	"relucert/rational"
)

// rename returns the form in which each term is replaced by those of a function.
func rename(f api.Affine, of func(t api.Term) []api.Term) api.Affine {
	var terms []api.Term
	for _, t := range f.Terms {
		terms = append(terms, of(t)...)
	}
	out, _ := linear.Make(terms, f.Const)
	return out
}

func renameAll(l []api.Affine, of func(t api.Term) []api.Term) []api.Affine {
	out := make([]api.Affine, len(l))
	for i, f := range l {
		out[i] = rename(f, of)
	}
	return out
}

func hasUnit(g api.Graph, unit int) bool { return unit >= 0 && unit < len(g.Units) }

// Scale returns the graph in which the form of a unit is multiplied.
func Scale(g api.Graph, unit int, c api.Rat) (api.Graph, api.Errno) {
	if !Valid(g) || rational.Sign(c) <= 0 {
		return api.Graph{}, api.ErrArg
	}
	if !hasUnit(g, unit) {
		return api.Graph{}, api.ErrRange
	}
	inverse, _ := rational.Div(rational.Of(1), c)
	divide := func(t api.Term) []api.Term {
		if t.Var == g.Inputs+unit {
			t.Coef = rational.Mul(t.Coef, inverse)
		}
		return []api.Term{t}
	}
	units := renameAll(g.Units, divide)
	units[unit] = linear.Scale(g.Units[unit], rational.Canon(c))
	return api.Graph{Inputs: g.Inputs, Units: units, Outputs: renameAll(g.Outputs, divide)}, api.OK
}

// Permute returns the graph with its units in another order.
func Permute(g api.Graph, order []int) (api.Graph, api.Errno) {
	if !Valid(g) || len(order) != len(g.Units) {
		return api.Graph{}, api.ErrArg
	}
	place := make([]int, len(order))
	for k, unit := range order {
		if !hasUnit(g, unit) || place[unit] != 0 {
			return api.Graph{}, api.ErrArg
		}
		place[unit] = k + 1
	}
	move := func(t api.Term) []api.Term {
		if t.Var >= g.Inputs {
			t.Var = g.Inputs + place[t.Var-g.Inputs] - 1
		}
		return []api.Term{t}
	}
	units := make([]api.Affine, len(order))
	for k, unit := range order {
		units[k] = rename(g.Units[unit], move)
	}
	out := api.Graph{Inputs: g.Inputs, Units: units, Outputs: renameAll(g.Outputs, move)}
	if !Valid(out) {
		return api.Graph{}, api.ErrState
	}
	return out, api.OK
}

// Halve returns the graph in which a unit is replaced by two halves.
func Halve(g api.Graph, unit int) (api.Graph, api.Errno) {
	switch {
	case !Valid(g):
		return api.Graph{}, api.ErrArg
	case !hasUnit(g, unit):
		return api.Graph{}, api.ErrRange
	case len(g.Units) == api.MaxUnits:
		return api.Graph{}, api.ErrLimit
	}
	at := g.Inputs + unit
	double := func(t api.Term) []api.Term {
		switch {
		case t.Var < at:
			return []api.Term{t}
		case t.Var == at:
			return []api.Term{t, {Var: at + 1, Coef: t.Coef}}
		}
		return []api.Term{{Var: t.Var + 1, Coef: t.Coef}}
	}
	half, _ := rational.Frac(1, 2)
	var units []api.Affine
	for j, f := range g.Units {
		if j == unit {
			units = append(units, linear.Scale(f, half), linear.Scale(f, half))
		} else {
			units = append(units, rename(f, double))
		}
	}
	return api.Graph{Inputs: g.Inputs, Units: units, Outputs: renameAll(g.Outputs, double)}, api.OK
}

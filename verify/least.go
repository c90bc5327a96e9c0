package verify

import (
	"slices"

	"relucert/api"
	"relucert/cuts"
	"relucert/domain"
	"relucert/graph"
	"relucert/linear"
	"relucert/nodelp"
	"relucert/phase"
	"relucert/rational"
	"relucert/rows"
	"relucert/split"
	"relucert/symbolic"
)

// minimum is a branch and bound for the least value of a query: the parts that are left, and the best input so far.
type minimum struct {
	query   api.Query
	options api.Options
	bound   domain.Bound
	parts   []*rows.View
	input   []api.Rat
	value   api.Rat
	program func(v *rows.View, f api.Affine) (api.Part, api.Errno)
}

// Least returns the least value of a query, and an input at which the goal has it.
func Least(q api.Query, o api.Options) (api.Rat, []api.Rat, api.Errno) {
	if !rows.Valid(q) || !validOptions(o) {
		return api.Rat{}, nil, api.ErrArg
	}
	m := &minimum{query: q, options: o, program: nodelp.SolveIn}
	m.bound, _ = symbolic.In(o.Domain)
	if o.Cuts {
		m.program = cuts.LoopIn
	}
	m.parts = []*rows.View{rows.NewView(api.Scope{Query: q})}
	for examined := 0; len(m.parts) > 0; examined++ {
		if examined == o.Nodes {
			return api.Rat{}, nil, api.ErrLimit
		}
		last := len(m.parts) - 1
		v := m.parts[last]
		m.parts = m.parts[:last]
		if e := m.examine(v); e != api.OK {
			return api.Rat{}, nil, e
		}
	}
	if len(m.input) == 0 {
		return api.Rat{}, nil, api.ErrNone
	}
	return m.value, slices.Clone(m.input), api.OK
}

// isWorse reports whether a bound excludes anything better than the best input.
func (m *minimum) isWorse(bound api.Rat) bool {
	return len(m.input) > 0 && rational.Cmp(bound, m.value) >= 0
}

// examine drops a part or divides it.
func (m *minimum) examine(v *rows.View) api.Errno {
	domain.RunIn(m.bound, v, m.options.Bits)
	if b, _, ok := m.bound(v, m.query.Goal); ok && m.isWorse(b) {
		return api.OK
	}
	x, e := m.program(v, m.query.Goal)
	exact := nodelp.ExactIn(v)
	switch {
	case e != api.OK && exact:
		return e
	case e == api.OK && x.Status == api.LPInfeasible:
		return api.OK
	case e == api.OK && x.Status == api.LPOptimal:
		m.try(x.Point[:v.Inputs()])
		if m.isWorse(x.Value) {
			return api.OK
		}
	}
	return m.divide(v, x.Point)
}

// try takes an input if its value is less than the best one.
func (m *minimum) try(x []api.Rat) {
	values, _ := graph.Values(m.query.Graph, x)
	if v, _ := linear.Eval(m.query.Goal, values); !m.isWorse(v) {
		m.input, m.value = x, v
	}
}

// divide splits a part by a unit: each unit is decided once on a path, so that there are fewer than 2^(n+1) parts.
func (m *minimum) divide(v *rows.View, point []api.Rat) api.Errno {
	rule := m.options.Rule
	if rule == split.Bisect {
		rule = split.First
	}
	d, e := split.ChooseIn(v, point, rule)
	if e != api.OK {
		return api.ErrLimit
	}
	kids := [2]*rows.View{v.With(phase.Opposite(d)), v.With(d)}
	if len(point) > 0 {
		if pre, _ := linear.Eval(v.Pre(d.Index), point); pre.Neg {
			kids[0], kids[1] = kids[1], kids[0]
		}
	}
	m.parts = append(m.parts, kids[:]...)
	return api.OK
}

package checker

import (
	"relucert/api"
	"relucert/linear"
	"relucert/rational"
)

// place is where a node stands: its path, whose decisions fit, and the lemmas before it.
type place struct {
	query  api.Query
	path   []api.Decision
	lemmas []api.Lemma
}

func (p *place) push(d api.Decision) { p.path = append(p.path, d) }

func (p *place) pop() { p.path = p.path[:len(p.path)-1] }

func (p *place) hasInput(i int) bool { return i >= 0 && i < p.query.Graph.Inputs }

func (p *place) hasUnit(j int) bool { return j >= 0 && j < len(p.query.Graph.Units) }

// fits reports whether a decision fits the query.
func (p *place) fits(d api.Decision) bool {
	switch d.Kind {
	case api.DecOn, api.DecOff:
		return p.hasUnit(d.Index) && !d.At.Neg && len(d.At.Num) == 0 && len(d.At.Den) == 0
	case api.DecAbove, api.DecBelow:
		return p.hasInput(d.Index) && rational.Valid(d.At)
	}
	return false
}

// right reports whether a node is right, apart from its kids, and appends its lemmas.
func (p *place) right(n api.Node) bool {
	for _, m := range n.Lemmas {
		if !p.derived(m) {
			return false
		}
		p.lemmas = append(p.lemmas, m)
	}
	if len(n.Kids) > 0 {
		return p.fits(n.Split)
	}
	sum, ok := p.sum(n.Proof)
	if !ok {
		return false
	}
	if n.Empty {
		return len(sum.Terms) == 0 && rational.Sign(sum.Const) < 0
	}
	return exceeds(p.query.Goal, sum)
}

// exceeds reports whether a form is another one plus a constant that is not negative.
func exceeds(f, g api.Affine) bool {
	d := linear.Sub(f, g)
	return len(d.Terms) == 0 && rational.Sign(d.Const) >= 0
}

// derived reports whether a lemma is derived in this place.
func (p *place) derived(m api.Lemma) bool {
	if !p.hasUnit(m.Unit) || !rational.Valid(m.Value) {
		return false
	}
	sum, ok := p.sum(m.Proof)
	if !ok {
		return false
	}
	bound := linear.Sub(p.query.Graph.Units[m.Unit], api.Affine{Const: m.Value})
	if m.Upper {
		bound = negated(bound)
	}
	return exceeds(bound, sum)
}

// sum returns the sum of a derivation, if it is canonical and its rows are available.
func (p *place) sum(l []api.Mult) (api.Affine, bool) {
	weights, forms := make([]api.Rat, len(l)), make([]api.Affine, len(l))
	for i, m := range l {
		if !rational.Valid(m.Coef) || rational.Sign(m.Coef) <= 0 || i > 0 && !precedes(l[i-1].Row, m.Row) {
			return api.Affine{}, false
		}
		f, ok := p.form(m.Row)
		if !ok {
			return api.Affine{}, false
		}
		weights[i], forms[i] = m.Coef, f
	}
	return linear.Combine(api.Rat{}, weights, forms), true
}

func precedes(a, b api.Row) bool {
	switch {
	case a.Kind != b.Kind:
		return a.Kind < b.Kind
	case a.Index != b.Index:
		return a.Index < b.Index
	case a.Lo != b.Lo:
		return a.Lo < b.Lo
	}
	return a.Hi < b.Hi
}

func negated(f api.Affine) api.Affine { return linear.Scale(f, rational.Of(-1)) }

// line returns the form c times variable x plus d.
func line(x, c int, d api.Rat) api.Affine {
	return api.Affine{Terms: []api.Term{{Var: x, Coef: rational.Of(c)}}, Const: d}
}

// lemma returns the value of the lemma with a number plus 1, if it is one of this unit and side.
func (p *place) lemma(number, unit int, upper bool) (api.Rat, bool) {
	if number < 1 || number > len(p.lemmas) {
		return api.Rat{}, false
	}
	m := p.lemmas[number-1]
	return m.Value, m.Unit == unit && m.Upper == upper
}

// decided reports whether the path decides a unit.
func (p *place) decided(kind, unit int) bool {
	for _, d := range p.path {
		if d.Kind == kind && d.Index == unit {
			return true
		}
	}
	return false
}

// isOn reports whether a row proves that its unit is on.
func (p *place) isOn(r api.Row) bool {
	if r.Lo == 0 {
		return p.decided(api.DecOn, r.Index)
	}
	l, ok := p.lemma(r.Lo, r.Index, false)
	return ok && rational.Sign(l) >= 0
}

// isOff reports whether a row proves that its unit is off.
func (p *place) isOff(r api.Row) bool {
	if r.Hi == 0 {
		return p.decided(api.DecOff, r.Index)
	}
	u, ok := p.lemma(r.Hi, r.Index, true)
	return ok && rational.Sign(u) <= 0
}

// form returns the form of a row, if it is available.
func (p *place) form(r api.Row) (api.Affine, bool) {
	if r.Kind >= api.RowZero {
		return p.unitForm(r)
	}
	if r.Lo != 0 || r.Hi != 0 {
		return api.Affine{}, false
	}
	reg := p.query.Region
	switch r.Kind {
	case api.RowLo:
		if p.hasInput(r.Index) {
			return line(r.Index, 1, rational.Neg(reg.Lo[r.Index])), true
		}
	case api.RowHi:
		if p.hasInput(r.Index) {
			return line(r.Index, -1, reg.Hi[r.Index]), true
		}
	case api.RowPoly:
		if r.Index >= 0 && r.Index < len(reg.Rows) {
			return reg.Rows[r.Index], true
		}
	case api.RowPath:
		if r.Index >= 0 && r.Index < len(p.path) {
			return pathForm(p.path[r.Index])
		}
	}
	return api.Affine{}, false
}

func pathForm(d api.Decision) (api.Affine, bool) {
	switch d.Kind {
	case api.DecAbove:
		return line(d.Index, 1, rational.Neg(d.At)), true
	case api.DecBelow:
		return line(d.Index, -1, d.At), true
	}
	return api.Affine{}, false
}

// unitForm returns the form of a row about a unit, if it is available.
func (p *place) unitForm(r api.Row) (api.Affine, bool) {
	if !p.hasUnit(r.Index) {
		return api.Affine{}, false
	}
	x, pre := p.query.Graph.Inputs+r.Index, p.query.Graph.Units[r.Index]
	value := line(x, 1, api.Rat{})
	switch r.Kind {
	case api.RowZero:
		return value, r.Lo == 0 && r.Hi == 0
	case api.RowAbove:
		return linear.Sub(value, pre), r.Lo == 0 && r.Hi == 0
	case api.RowOn:
		return pre, r.Hi == 0 && p.isOn(r)
	case api.RowOnEq:
		return linear.Sub(pre, value), r.Hi == 0 && p.isOn(r)
	case api.RowOff:
		return negated(pre), r.Lo == 0 && p.isOff(r)
	case api.RowOffEq:
		return negated(value), r.Lo == 0 && p.isOff(r)
	case api.RowLower:
		l, ok := p.lemma(r.Lo, r.Index, false)
		return linear.Sub(pre, api.Affine{Const: l}), ok && r.Hi == 0
	case api.RowUpper:
		u, ok := p.lemma(r.Hi, r.Index, true)
		return linear.Sub(api.Affine{Const: u}, pre), ok && r.Lo == 0
	case api.RowTri:
		return p.triangle(r, value, pre)
	}
	return api.Affine{}, false
}

func (p *place) triangle(r api.Row, value, pre api.Affine) (api.Affine, bool) {
	l, okLower := p.lemma(r.Lo, r.Index, false)
	u, okUpper := p.lemma(r.Hi, r.Index, true)
	if !okLower || !okUpper || rational.Sign(l) >= 0 || rational.Sign(u) <= 0 {
		return api.Affine{}, false
	}
	above := linear.Scale(linear.Sub(pre, api.Affine{Const: l}), u)
	return linear.Sub(above, linear.Scale(value, rational.Sub(u, l))), true
}

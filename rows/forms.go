package rows

import (
	"relucert/api"
	"relucert/linear"
	"relucert/rational"
)

// kind says which rows of a kind exist, and builds their forms.
type kind struct {
	lo, hi bool // whether the rows use the fields Lo and Hi
	form   func(v *View, r api.Row) (api.Affine, bool)
}

// kinds returns the table of all kinds, indexed by their numbers.
func kinds() [api.RowTri + 1]kind {
	return [...]kind{
		api.RowLo:    {form: rowLo},
		api.RowHi:    {form: rowHi},
		api.RowPoly:  {form: rowPoly},
		api.RowPath:  {form: rowPath},
		api.RowZero:  {form: rowZero},
		api.RowAbove: {form: rowAbove},
		api.RowOn:    {lo: true, form: rowOn},
		api.RowOnEq:  {lo: true, form: rowOnEq},
		api.RowOff:   {hi: true, form: rowOff},
		api.RowOffEq: {hi: true, form: rowOffEq},
		api.RowLower: {lo: true, form: rowLower},
		api.RowUpper: {hi: true, form: rowUpper},
		api.RowTri:   {lo: true, hi: true, form: rowTri},
	}
}

// Form returns the form of a row, if it is available.
func (v *View) Form(r api.Row) (api.Affine, bool) {
	table := kinds()
	if !v.valid || r.Kind < api.RowLo || r.Kind >= len(table) {
		return api.Affine{}, false
	}
	k := table[r.Kind]
	if r.Lo != 0 && !k.lo || r.Hi != 0 && !k.hi || r.Kind >= api.RowZero && !v.hasUnit(r.Index) {
		return api.Affine{}, false
	}
	return k.form(v, r)
}

// line returns the form c times variable x plus d.
func line(x int, c int, d api.Rat) api.Affine {
	return api.Affine{Terms: []api.Term{{Var: x, Coef: rational.Of(c)}}, Const: d}
}

func negated(f api.Affine) api.Affine { return linear.Scale(f, rational.Of(-1)) }

func constant(c api.Rat) api.Affine { return api.Affine{Const: c} }

func (v *View) variable(j int) api.Affine { return line(v.Var(j), 1, api.Rat{}) }

// lemma returns the value of the lemma with a number plus 1, if it is of this unit and side.
func (v *View) lemma(number, unit int, upper bool) (api.Rat, bool) {
	if number < 1 || number > len(v.lemmas) {
		return api.Rat{}, false
	}
	m := v.lemmas[number-1]
	return rational.Canon(m.Value), m.Unit == unit && m.Upper == upper
}

func rowLo(v *View, r api.Row) (api.Affine, bool) {
	if !v.hasInput(r.Index) {
		return api.Affine{}, false
	}
	return line(r.Index, 1, rational.Neg(v.query.Region.Lo[r.Index])), true
}

func rowHi(v *View, r api.Row) (api.Affine, bool) {
	if !v.hasInput(r.Index) {
		return api.Affine{}, false
	}
	return line(r.Index, -1, v.query.Region.Hi[r.Index]), true
}

func rowPoly(v *View, r api.Row) (api.Affine, bool) {
	if r.Index < 0 || r.Index >= len(v.query.Region.Rows) {
		return api.Affine{}, false
	}
	return v.query.Region.Rows[r.Index], true
}

func rowPath(v *View, r api.Row) (api.Affine, bool) {
	if r.Index < 0 || r.Index >= len(v.path) || !v.Fits(v.path[r.Index]) {
		return api.Affine{}, false
	}
	d := v.path[r.Index]
	switch d.Kind {
	case api.DecAbove:
		return line(d.Index, 1, rational.Neg(d.At)), true
	case api.DecBelow:
		return line(d.Index, -1, d.At), true
	}
	return api.Affine{}, false
}

func rowZero(v *View, r api.Row) (api.Affine, bool) { return v.variable(r.Index), true }

func rowAbove(v *View, r api.Row) (api.Affine, bool) {
	return linear.Sub(v.variable(r.Index), v.Pre(r.Index)), true
}

// isOn reports whether the field Lo of a row proves that its unit is on.
func (v *View) isOn(r api.Row) bool {
	if r.Lo == 0 {
		return v.units[r.Index].on
	}
	l, ok := v.lemma(r.Lo, r.Index, false)
	return ok && rational.Sign(l) >= 0
}

// isOff reports whether the field Hi of a row proves that its unit is off.
func (v *View) isOff(r api.Row) bool {
	if r.Hi == 0 {
		return v.units[r.Index].off
	}
	u, ok := v.lemma(r.Hi, r.Index, true)
	return ok && rational.Sign(u) <= 0
}

func rowOn(v *View, r api.Row) (api.Affine, bool) {
	if !v.isOn(r) {
		return api.Affine{}, false
	}
	return v.Pre(r.Index), true
}

func rowOnEq(v *View, r api.Row) (api.Affine, bool) {
	if !v.isOn(r) {
		return api.Affine{}, false
	}
	return linear.Sub(v.Pre(r.Index), v.variable(r.Index)), true
}

func rowOff(v *View, r api.Row) (api.Affine, bool) {
	if !v.isOff(r) {
		return api.Affine{}, false
	}
	return negated(v.Pre(r.Index)), true
}

func rowOffEq(v *View, r api.Row) (api.Affine, bool) {
	if !v.isOff(r) {
		return api.Affine{}, false
	}
	return negated(v.variable(r.Index)), true
}

func rowLower(v *View, r api.Row) (api.Affine, bool) {
	l, ok := v.lemma(r.Lo, r.Index, false)
	if !ok {
		return api.Affine{}, false
	}
	return linear.Sub(v.Pre(r.Index), constant(l)), true
}

func rowUpper(v *View, r api.Row) (api.Affine, bool) {
	u, ok := v.lemma(r.Hi, r.Index, true)
	if !ok {
		return api.Affine{}, false
	}
	return linear.Sub(constant(u), v.Pre(r.Index)), true
}

func rowTri(v *View, r api.Row) (api.Affine, bool) {
	l, okLower := v.lemma(r.Lo, r.Index, false)
	u, okUpper := v.lemma(r.Hi, r.Index, true)
	if !okLower || !okUpper || rational.Sign(l) >= 0 || rational.Sign(u) <= 0 {
		return api.Affine{}, false
	}
	above := linear.Scale(linear.Sub(v.Pre(r.Index), constant(l)), u)
	return linear.Sub(above, linear.Scale(v.variable(r.Index), rational.Sub(u, l))), true
}

// All returns the rows of the scope.
func (v *View) All() []api.Row {
	if !v.valid {
		return nil
	}
	var out []api.Row
	for i := range v.lo {
		out = append(out, api.Row{Kind: api.RowLo, Index: i}, api.Row{Kind: api.RowHi, Index: i})
	}
	for i := range v.query.Region.Rows {
		out = append(out, api.Row{Kind: api.RowPoly, Index: i})
	}
	for i := range v.path {
		r := api.Row{Kind: api.RowPath, Index: i}
		if _, ok := rowPath(v, r); ok {
			out = append(out, r)
		}
	}
	for j := range v.units {
		out = append(out, v.unitRows(j)...)
	}
	return out
}

func (v *View) unitRows(j int) []api.Row {
	lo, on := v.On(j)
	hi, off := v.Off(j)
	var out []api.Row
	if on {
		out = append(out, api.Row{Kind: api.RowAbove, Index: j}, api.Row{Kind: api.RowOn, Index: j, Lo: lo}, api.Row{Kind: api.RowOnEq, Index: j, Lo: lo})
	}
	if off {
		out = append(out, api.Row{Kind: api.RowZero, Index: j}, api.Row{Kind: api.RowOff, Index: j, Hi: hi}, api.Row{Kind: api.RowOffEq, Index: j, Hi: hi})
	}
	if on || off {
		return out
	}
	lo, hi = v.Best(j)
	out = append(out, api.Row{Kind: api.RowZero, Index: j}, api.Row{Kind: api.RowAbove, Index: j})
	if lo > 0 {
		out = append(out, api.Row{Kind: api.RowLower, Index: j, Lo: lo})
	}
	if hi > 0 {
		out = append(out, api.Row{Kind: api.RowUpper, Index: j, Hi: hi})
	}
	if lo > 0 && hi > 0 {
		out = append(out, api.Row{Kind: api.RowTri, Index: j, Lo: lo, Hi: hi})
	}
	return out
}

// Sum returns the sum of multiples of rows, or false if one of the rows is not available.
func (v *View) Sum(l []api.Mult) (api.Affine, bool) {
	weights, forms := make([]api.Rat, len(l)), make([]api.Affine, len(l))
	for i, m := range l {
		f, ok := v.Form(m.Row)
		if !ok {
			return api.Affine{}, false
		}
		weights[i], forms[i] = m.Coef, f
	}
	return linear.Combine(api.Rat{}, weights, forms), true
}

package rows

import (
	"slices"

	"relucert/api"
	"relucert/graph"
	"relucert/linear"
	"relucert/rational"
	"relucert/region"
)

// Valid reports whether a query is valid.
func Valid(q api.Query) bool {
	return graph.Valid(q.Graph) && region.Valid(q.Region, q.Graph.Inputs) && linear.Valid(q.Goal, q.Graph.Inputs+len(q.Graph.Units))
}

// Bound is a bound of an input with the row that states it.
type Bound struct {
	At  api.Rat
	Row api.Row
}

// unit is what a scope says about a unit: its decisions, and the numbers of its best lemmas plus 1 with their values.
type unit struct {
	on, off      bool
	lower, upper int
	l, u         api.Rat
}

// View is a scope with what follows from its path and its lemmas, for callers with many questions about one scope. Views of scopes whose query is not valid have no rows.
type View struct {
	query  api.Query
	valid  bool
	path   []api.Decision
	lemmas []api.Lemma
	units  []unit
	lo, hi []Bound
}

// NewView returns the view of a scope.
func NewView(s api.Scope) *View {
	v := &View{query: s.Query, valid: Valid(s.Query)}
	if !v.valid {
		return v
	}
	v.units = make([]unit, len(s.Query.Graph.Units))
	for i := range s.Query.Region.Lo {
		v.lo = append(v.lo, Bound{s.Query.Region.Lo[i], api.Row{Kind: api.RowLo, Index: i}})
		v.hi = append(v.hi, Bound{s.Query.Region.Hi[i], api.Row{Kind: api.RowHi, Index: i}})
	}
	for _, d := range s.Path {
		v.decide(d)
	}
	for _, m := range s.Lemmas {
		v.Add(m)
	}
	return v
}

// With returns the view of the scope with a further decision.
func (v *View) With(d api.Decision) *View {
	c := *v
	c.path, c.lemmas, c.units = slices.Clip(v.path), slices.Clip(v.lemmas), slices.Clone(v.units)
	c.lo, c.hi = slices.Clone(v.lo), slices.Clone(v.hi)
	c.decide(d)
	return &c
}

// decide appends a decision to the path.
func (v *View) decide(d api.Decision) {
	row := api.Row{Kind: api.RowPath, Index: len(v.path)}
	v.path = append(v.path, d)
	if !v.Fits(d) {
		return
	}
	switch d.Kind {
	case api.DecOn:
		v.units[d.Index].on = true
	case api.DecOff:
		v.units[d.Index].off = true
	case api.DecAbove:
		if rational.Cmp(d.At, v.lo[d.Index].At) > 0 {
			v.lo[d.Index] = Bound{d.At, row}
		}
	case api.DecBelow:
		if rational.Cmp(d.At, v.hi[d.Index].At) < 0 {
			v.hi[d.Index] = Bound{d.At, row}
		}
	}
}

// Add appends a lemma.
func (v *View) Add(m api.Lemma) {
	v.lemmas = append(v.lemmas, m)
	if m.Unit < 0 || m.Unit >= len(v.units) {
		return
	}
	u := &v.units[m.Unit]
	switch {
	case m.Upper && (u.upper == 0 || rational.Cmp(m.Value, u.u) < 0):
		u.upper, u.u = len(v.lemmas), rational.Canon(m.Value)
	case !m.Upper && (u.lower == 0 || rational.Cmp(m.Value, u.l) > 0):
		u.lower, u.l = len(v.lemmas), rational.Canon(m.Value)
	}
}

// IsValid reports whether the query is valid.
func (v *View) IsValid() bool { return v.valid }

// Query returns the query.
func (v *View) Query() api.Query { return v.query }

// Scope returns the scope.
func (v *View) Scope() api.Scope {
	return api.Scope{Query: v.query, Path: slices.Clip(v.path), Lemmas: slices.Clip(v.lemmas)}
}

// Path returns the path, which must not be changed.
func (v *View) Path() []api.Decision { return slices.Clip(v.path) }

// Lemmas returns the lemmas, which must not be changed.
func (v *View) Lemmas() []api.Lemma { return slices.Clip(v.lemmas) }

// Inputs returns the number of inputs of a valid query.
func (v *View) Inputs() int { return len(v.lo) }

// Units returns the number of units of a valid query.
func (v *View) Units() int { return len(v.units) }

// Vars returns the number of variables of a valid query.
func (v *View) Vars() int { return len(v.lo) + len(v.units) }

// Covers reports whether the query is valid and a form is canonical over its variables.
func (v *View) Covers(f api.Affine) bool { return v.valid && linear.Valid(f, v.Vars()) }

// Fits reports whether a decision fits the query.
func (v *View) Fits(d api.Decision) bool {
	switch d.Kind {
	case api.DecOn, api.DecOff:
		return v.hasUnit(d.Index) && !d.At.Neg && len(d.At.Num) == 0 && len(d.At.Den) == 0
	case api.DecAbove, api.DecBelow:
		return v.hasInput(d.Index) && rational.Valid(d.At)
	}
	return false
}

func (v *View) hasUnit(j int) bool { return j >= 0 && j < len(v.units) }

func (v *View) hasInput(i int) bool { return i >= 0 && i < len(v.lo) }

// Pre returns the form of a unit.
func (v *View) Pre(unit int) api.Affine { return v.query.Graph.Units[unit] }

// Var returns the variable of a unit.
func (v *View) Var(unit int) int { return len(v.lo) + unit }

// Best returns the numbers of the best lemmas of a unit plus 1.
func (v *View) Best(unit int) (int, int) {
	if !v.hasUnit(unit) {
		return 0, 0
	}
	return v.units[unit].lower, v.units[unit].upper
}

// Lower returns the value of the best lower lemma of a unit, which must exist.
func (v *View) Lower(unit int) api.Rat { return v.units[unit].l }

// Upper returns the value of the best upper lemma of a unit, which must exist.
func (v *View) Upper(unit int) api.Rat { return v.units[unit].u }

// On reports whether a unit is on, and the field Lo of the rows that say so.
func (v *View) On(j int) (int, bool) {
	u := v.units[j]
	if u.on {
		return 0, true
	}
	if u.lower > 0 && !u.l.Neg {
		return u.lower, true
	}
	return 0, false
}

// Off reports whether a unit is off, and the field Hi of the rows that say so.
func (v *View) Off(j int) (int, bool) {
	u := v.units[j]
	if u.off {
		return 0, true
	}
	if u.upper > 0 && rational.Sign(u.u) <= 0 {
		return u.upper, true
	}
	return 0, false
}

// Phase returns the phase of a unit.
func (v *View) Phase(unit int) int {
	if !v.hasUnit(unit) {
		return api.PhaseOpen
	}
	if _, on := v.On(unit); on {
		return api.PhaseOn
	}
	if _, off := v.Off(unit); off {
		return api.PhaseOff
	}
	return api.PhaseOpen
}

// Lo returns the lower bound of an input.
func (v *View) Lo(input int) Bound { return v.lo[input] }

// Hi returns the upper bound of an input.
func (v *View) Hi(input int) Bound { return v.hi[input] }

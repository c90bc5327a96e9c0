package domain

import (
	"slices"
	"testing"

	"relucert/api"
	"relucert/box"
	"relucert/derive"
	"relucert/linear"
	"relucert/rational"
	"relucert/rows"
	"relucert/testkit"
)

var (
	frac = testkit.Frac
	form = testkit.Form
)

func sample(unit string, lo, hi api.Rat) api.Scope {
	return api.Scope{Query: api.Query{Graph: api.Graph{Inputs: 1, Units: []api.Affine{form(unit)}, Outputs: []api.Affine{form("x1")}}, Region: api.Region{Lo: []api.Rat{lo}, Hi: []api.Rat{hi}}, Goal: form("x1")}}
}

// inputs bounds the forms over the first input, lowered by slack.
type inputs struct {
	name  string
	slack int
}

func (d inputs) Name() string { return d.name }

func (d inputs) Lower(s api.Scope, f api.Affine) (api.Rat, []api.Mult, bool) {
	if !linear.Valid(f, 1) {
		return api.Rat{}, nil, false
	}
	c := linear.Coef(f, 0)
	m := api.Mult{Row: api.Row{Kind: api.RowLo}, Coef: c}
	if c.Neg {
		m = api.Mult{Row: api.Row{Kind: api.RowHi}, Coef: rational.Neg(c)}
	}
	l, _ := derive.Collect([]api.Mult{m})
	sum, _ := derive.Sum(s, l)
	return rational.Sub(linear.Sub(f, sum).Const, rational.Of(d.slack)), l, true
}

// nothing has no bounds.
type nothing struct{}

func (nothing) Name() string { return "nothing" }

func (nothing) Lower(s api.Scope, f api.Affine) (api.Rat, []api.Mult, bool) {
	return api.Rat{}, nil, false
}

func TestRun(t *testing.T) {
	s := sample("x0 - 1", api.Rat{}, rational.Of(3))
	s.Path = []api.Decision{{Kind: api.DecOn}}
	got, e := Run(inputs{"inputs", 0}, s, 0)
	if e != api.OK || len(got.Lemmas) != 2 || len(got.Path) != 1 || got.Lemmas[0].Upper || !got.Lemmas[1].Upper || rational.Cmp(got.Lemmas[0].Value, rational.Of(-1)) != 0 || rational.Cmp(got.Lemmas[1].Value, rational.Of(2)) != 0 || !derive.Scope(got) {
		t.Error(got.Lemmas, e)
	}
	again, e := Run(inputs{"inputs", 0}, got, 0)
	if e != api.OK || len(again.Lemmas) != 2 {
		t.Error(again.Lemmas, e)
	}
	weak, _ := Run(inputs{"weak", 5}, s, 0)
	better, e := Run(inputs{"inputs", 0}, weak, 0)
	lo, hi := rows.Best(better, 0)
	if e != api.OK || len(better.Lemmas) != 4 || lo != 3 || hi != 4 || !slices.EqualFunc(better.Lemmas[:2], weak.Lemmas, func(a, b api.Lemma) bool { return a.Upper == b.Upper && rational.Cmp(a.Value, b.Value) == 0 }) {
		t.Error(better.Lemmas, e)
	}
	if none, e := Run(nothing{}, s, 0); e != api.OK || len(none.Lemmas) != 0 {
		t.Error(none, e)
	}
}

func TestRounding(t *testing.T) {
	s := sample("x0", frac(1, 3), frac(1, 3))
	for _, c := range []struct {
		bits   int
		lo, hi api.Rat
	}{{0, frac(1, 3), frac(1, 3)}, {1, frac(1, 4), frac(1, 2)}, {2, frac(1, 4), frac(3, 8)}} {
		got, e := Run(inputs{"inputs", 0}, s, c.bits)
		if e != api.OK || len(got.Lemmas) != 2 || rational.Cmp(got.Lemmas[0].Value, c.lo) != 0 || rational.Cmp(got.Lemmas[1].Value, c.hi) != 0 || !derive.Scope(got) {
			t.Error(c, got.Lemmas, e)
		}
	}
	huge := make(api.Nat, 31251)
	huge[31250] = 1
	big := sample("x0", api.Rat{}, api.Rat{Num: huge})
	got, e := Run(inputs{"inputs", 0}, big, 4)
	if e != api.OK || len(got.Lemmas) != 2 || rational.Cmp(got.Lemmas[1].Value, api.Rat{Num: huge}) != 0 {
		t.Error("a bound that cannot be rounded", e)
	}
}

func TestErrors(t *testing.T) {
	s := sample("x0", api.Rat{}, rational.Of(1))
	bad := s
	bad.Query.Goal = form("x7")
	for i, c := range []struct {
		d    Domain
		s    api.Scope
		bits int
	}{{nil, s, 0}, {nothing{}, bad, 0}, {nothing{}, s, -1}, {nothing{}, s, 4097}} {
		if got, e := Run(c.d, c.s, c.bits); e != api.ErrArg || got.Query.Graph.Inputs != 0 {
			t.Error(i, e)
		}
	}
	if _, e := Run(nothing{}, s, 4096); e != api.OK {
		t.Error(e)
	}
}

// silent embeds a domain of this program, and has no bounds.
type silent struct{ box.Domain }

func (silent) Lower(s api.Scope, f api.Affine) (api.Rat, []api.Mult, bool) {
	return api.Rat{}, nil, false
}

// counting embeds another domain and counts the calls of Lower.
type counting struct {
	inputs
	calls *int
}

func (d counting) Lower(s api.Scope, f api.Affine) (api.Rat, []api.Mult, bool) {
	*d.calls++
	return d.inputs.Lower(s, f)
}

func TestEmbedded(t *testing.T) {
	calls := 0
	d := counting{inputs{"inputs", 0}, &calls}
	s := sample("x0", api.Rat{}, rational.Of(1))
	if got, e := Run(Both(d, nothing{}), s, 0); e != api.OK || calls != 2 || len(got.Lemmas) != 2 {
		t.Error(calls, e)
	}
	if got, e := Run(silent{}, s, 0); e != api.OK || len(got.Lemmas) != 0 {
		t.Error(got.Lemmas, e)
	}
}

func TestBoth(t *testing.T) {
	s := sample("x0", api.Rat{}, rational.Of(1))
	good, weak, none := inputs{"good", 0}, inputs{"weak", 1}, nothing{}
	if Both(nil, good) != nil || Both(good, nil) != nil || Both(good, weak).Name() != "good+weak" {
		t.Error("both")
	}
	for i, c := range []struct {
		a, b Domain
		want int
		ok   bool
	}{{good, weak, 0, true}, {weak, good, 0, true}, {none, weak, -1, true}, {weak, none, -1, true}, {none, none, 0, false}} {
		b, l, ok := Both(c.a, c.b).Lower(s, form("x0"))
		if ok != c.ok || rational.Cmp(b, rational.Of(c.want)) != 0 || ok != (len(l) == 1) {
			t.Error(i, b, l, ok)
		}
		if got, e := Run(Both(c.a, c.b), s, 0); e != api.OK || (len(got.Lemmas) == 2) != c.ok {
			t.Error(i, e)
		}
	}
}

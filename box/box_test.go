package box

import (
	"math/rand"
	"slices"
	"testing"

	"relucert/api"
	"relucert/derive"
	"relucert/domain"
	"relucert/graph"
	"relucert/linear"
	"relucert/rational"
	"relucert/rows"
	"relucert/testkit"
)

var (
	frac = testkit.Frac
	form = testkit.Form
)

var _ domain.Domain = Domain{}

func sample() api.Scope {
	return api.Scope{Query: api.Query{Graph: api.Graph{Inputs: 1, Units: []api.Affine{form("x0 - 1")}, Outputs: []api.Affine{form("x1")}}, Region: api.Region{Lo: []api.Rat{{}}, Hi: []api.Rat{rational.Of(3)}}, Goal: form("x1")}}
}

func TestExample(t *testing.T) {
	s, e := domain.Run(Domain{}, sample(), 0)
	if e != api.OK || len(s.Lemmas) != 2 {
		t.Fatal(e)
	}
	lo, hi, low, high := Variable(s, 1)
	if !low || !high || rational.Sign(lo) != 0 || rational.Cmp(hi, rational.Of(2)) != 0 {
		t.Error(lo, hi, low, high)
	}
	b, l, ok := Domain{}.Lower(s, form("x0 - x1"))
	want := []api.Mult{{Row: api.Row{Kind: api.RowLo}, Coef: rational.Of(1)}, {Row: api.Row{Kind: api.RowUpper, Hi: 2}, Coef: frac(2, 3)}, {Row: api.Row{Kind: api.RowTri, Lo: 1, Hi: 2}, Coef: frac(1, 3)}}
	if !ok || rational.Cmp(b, rational.Of(-2)) != 0 || !slices.EqualFunc(l, want, func(a, b api.Mult) bool { return a.Row == b.Row && rational.Cmp(a.Coef, b.Coef) == 0 }) {
		t.Error(b, l, ok)
	}
	if (Domain{}).Name() != "box" {
		t.Error("name")
	}
}

func TestVariable(t *testing.T) {
	lower := func(x int) api.Lemma { return api.Lemma{Value: rational.Of(x)} }
	upper := func(x int) api.Lemma { return api.Lemma{Upper: true, Value: rational.Of(x)} }
	none := 99
	for i, c := range []struct {
		path   []api.Decision
		lemmas []api.Lemma
		v      int
		lo, hi int
		rows   []api.Row // of the upper bound
	}{
		{nil, nil, 0, 0, 3, []api.Row{{Kind: api.RowHi}}}, {nil, nil, 1, 0, none, nil}, {nil, []api.Lemma{upper(2)}, 1, 0, none, nil}, {nil, []api.Lemma{lower(-1)}, 1, 0, none, nil},
		{[]api.Decision{{Kind: api.DecOff}}, nil, 1, 0, 0, []api.Row{{Kind: api.RowOffEq}}}, {nil, []api.Lemma{upper(-1)}, 1, 0, 0, []api.Row{{Kind: api.RowOffEq, Hi: 1}}}, {nil, []api.Lemma{upper(0)}, 1, 0, 0, []api.Row{{Kind: api.RowOffEq, Hi: 1}}},
		{[]api.Decision{{Kind: api.DecOn}}, nil, 1, 0, none, nil}, {[]api.Decision{{Kind: api.DecOn}}, []api.Lemma{upper(2)}, 1, 0, 2, []api.Row{{Kind: api.RowOnEq}, {Kind: api.RowUpper, Hi: 1}}},
		{nil, []api.Lemma{lower(1), upper(2)}, 1, 1, 2, []api.Row{{Kind: api.RowOnEq, Lo: 1}, {Kind: api.RowUpper, Hi: 2}}}, {[]api.Decision{{Kind: api.DecOn}, {Kind: api.DecOff}}, []api.Lemma{upper(2)}, 1, 0, 0, []api.Row{{Kind: api.RowOffEq}}},
		{[]api.Decision{{Kind: api.DecBelow, At: rational.Of(2)}, {Kind: api.DecBelow, At: rational.Of(2)}, {Kind: api.DecAbove, At: rational.Of(1)}}, nil, 0, 1, 2, []api.Row{{Kind: api.RowPath}}},
		{[]api.Decision{{Kind: api.DecBelow, At: rational.Of(3)}, {Kind: api.DecBelow, Index: 4, At: rational.Of(1)}}, nil, 0, 0, 3, []api.Row{{Kind: api.RowHi}}},
		{nil, nil, 2, none, none, nil}, {nil, nil, -1, none, none, nil},
	} {
		s := sample()
		s.Path, s.Lemmas = c.path, c.lemmas
		lo, hi, low, high := Variable(s, c.v)
		if low != (c.lo != none) || high != (c.hi != none) || low && rational.Cmp(lo, rational.Of(c.lo)) != 0 || high && rational.Cmp(hi, rational.Of(c.hi)) != 0 || !high && len(hi.Num) != 0 {
			t.Error(i, lo, hi, low, high)
		}
		if c.v < 0 {
			continue
		}
		minus, _ := linear.Make([]api.Term{{Var: c.v, Coef: rational.Of(-1)}}, api.Rat{})
		b, l, ok := Domain{}.Lower(s, minus)
		if ok != high || ok && rational.Cmp(b, rational.Neg(hi)) != 0 || len(l) != len(c.rows) {
			t.Error(i, b, l, ok)
			continue
		}
		for k, m := range l {
			if m.Row != c.rows[k] {
				t.Error(i, l)
			}
		}
	}
	bad := sample()
	bad.Query.Goal = form("x5")
	if _, _, low, high := Variable(bad, 0); low || high {
		t.Error("query")
	}
	if b, l, ok := (Domain{}).Lower(bad, form("x0")); ok || len(l)+len(b.Num) != 0 {
		t.Error("query")
	}
	if _, _, ok := (Domain{}).Lower(sample(), form("x2")); ok {
		t.Error("form")
	}
}

func random(r *rand.Rand, vars int) api.Affine {
	var terms []api.Term
	for range 3 {
		terms = append(terms, api.Term{Var: r.Intn(vars), Coef: frac(r.Intn(7)-3, 1+r.Intn(2))})
	}
	f, _ := linear.Make(terms, frac(r.Intn(5)-2, 2))
	return f
}

// TestBounds runs the domain in random scopes and compares with inputs.
func TestBounds(t *testing.T) {
	r := rand.New(rand.NewSource(1))
	for range 300 {
		q := api.Query{Graph: api.Graph{Inputs: 2, Outputs: []api.Affine{form("x0")}}, Region: api.Region{Lo: []api.Rat{rational.Of(-1), {}}, Hi: []api.Rat{rational.Of(1), rational.Of(2)}}, Goal: form("x0")}
		for j := range 3 {
			q.Graph.Units = append(q.Graph.Units, random(r, 2+j))
		}
		s := api.Scope{Query: q}
		for range r.Intn(3) {
			s.Path = append(s.Path, []api.Decision{{Kind: 1 + r.Intn(2), Index: r.Intn(3)}, {Kind: 3 + r.Intn(2), Index: r.Intn(2), At: frac(r.Intn(5)-2, 2)}}[r.Intn(2)])
		}
		got, e := domain.Run(Domain{}, s, r.Intn(2)*5)
		if e != api.OK || !derive.Scope(got) {
			t.Fatal(e)
		}
		f := random(r, 5)
		b, l, ok := Domain{}.Lower(got, f)
		sum, e := derive.Sum(got, l)
		if !ok || e != api.OK || !linear.Equal(linear.Sub(f, api.Affine{Const: b}), sum) {
			t.Fatal("derivation", ok, e)
		}
		narrow := got
		narrow.Path = append(slices.Clone(got.Path), api.Decision{Kind: api.DecAbove, At: frac(1, 2)})
		if c, _, ok := (Domain{}).Lower(narrow, f); !ok || rational.Cmp(c, b) < 0 {
			t.Fatal("weaker")
		}
		for i := range 25 {
			x := []api.Rat{frac(i/5-2, 2), frac(i%5, 2)}
			values, _ := graph.Values(q.Graph, x)
			if v, _ := linear.Eval(f, values); rows.Member(s, x) && rational.Cmp(v, b) < 0 {
				t.Fatal("bound", linear.Text(f), b, x)
			}
		}
	}
}

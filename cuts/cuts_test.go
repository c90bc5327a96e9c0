package cuts

import (
	"math/rand"
	"slices"
	"testing"

	"relucert/api"
	"relucert/box"
	"relucert/derive"
	"relucert/domain"
	"relucert/linear"
	"relucert/program"
	"relucert/rational"
	"relucert/rows"
	"relucert/simplex"
	"relucert/testkit"
)

var (
	frac = testkit.Frac
	form = testkit.Form
)

func sample() api.Scope {
	return api.Scope{Query: api.Query{Graph: api.Graph{Inputs: 1, Units: []api.Affine{form("x0 - 1")}, Outputs: []api.Affine{form("x1")}}, Region: api.Region{Lo: []api.Rat{{}}, Hi: []api.Rat{rational.Of(3)}}, Goal: form("x1")}}
}

func TestExample(t *testing.T) {
	s := sample()
	p, all, e := Program(s, form("x1"))
	if e != api.OK || program.Text(p) != "minimize x1\nx0 >= 0\n-x0 + 3 >= 0\nx1 >= 0\n-x0 + x1 + 1 >= 0\n" || !slices.Equal(all, rows.All(s)) {
		t.Error(program.Text(p), e)
	}
	if l := Violated(s, []api.Rat{rational.Of(3), rational.Of(1)}); len(l) != 1 || l[0].Kind != api.RowAbove {
		t.Error(l)
	}
	if l := Violated(s, []api.Rat{rational.Of(5), rational.Of(-1)}); len(l) != 3 || l[0].Kind != api.RowAbove || l[1].Kind != api.RowHi || l[2].Kind != api.RowZero {
		t.Error(l)
	}
	if l := Violated(s, []api.Rat{rational.Of(4), rational.Of(-1)}); len(l) != 3 || l[1].Kind != api.RowHi {
		t.Error("equal values", l)
	}
	if x, e := Loop(s, form("x1")); e != api.OK || x.Status != api.LPOptimal || rational.Sign(x.Value) != 0 {
		t.Error(x, e)
	}
	if x, e := Loop(s, form("-x1")); e != api.OK || x.Status != api.LPUnbounded || len(x.Point)+len(x.Proof) != 0 {
		t.Error(x, e)
	}
	s.Lemmas = []api.Lemma{{Value: rational.Of(-1)}, {Upper: true, Value: rational.Of(2)}}
	if x, e := Loop(s, form("-x1")); e != api.OK || x.Status != api.LPOptimal || rational.Cmp(x.Value, rational.Of(-2)) != 0 {
		t.Error(x, e)
	}
	s.Path = []api.Decision{{Kind: api.DecAbove, At: rational.Of(4)}}
	if x, e := Loop(s, form("-x1")); e != api.OK || x.Status != api.LPInfeasible || !derive.Refutes(s, x.Proof) || len(x.Point) != 0 {
		t.Error(x, e)
	}
}

func TestErrors(t *testing.T) {
	s := sample()
	bad := s
	bad.Query.Goal = form("x7")
	for i, c := range []struct {
		s api.Scope
		f string
	}{{bad, "x0"}, {s, "x2"}} {
		p, all, e := Program(c.s, form(c.f))
		x, f := Loop(c.s, form(c.f))
		if e != api.ErrArg || f != api.ErrArg || p.Vars != 0 || len(all) != 0 || x.Status != 0 {
			t.Error(i, e, f)
		}
	}
	if len(Violated(bad, []api.Rat{rational.Of(-9), {}})) != 0 || len(Violated(s, []api.Rat{rational.Of(-9)})) != 0 {
		t.Error("violated")
	}
}

// TestAgainstSimplex compares with the whole program.
func TestAgainstSimplex(t *testing.T) {
	r := rand.New(rand.NewSource(1))
	random := func(vars int) api.Affine {
		var terms []api.Term
		for range 3 {
			terms = append(terms, api.Term{Var: r.Intn(vars), Coef: frac(r.Intn(7)-3, 1+r.Intn(2))})
		}
		f, _ := linear.Make(terms, frac(r.Intn(5)-2, 2))
		return f
	}
	count := [4]int{}
	for range 200 {
		q := api.Query{Graph: api.Graph{Inputs: 2, Outputs: []api.Affine{form("x0")}}, Region: api.Region{Lo: []api.Rat{rational.Of(-1), {}}, Hi: []api.Rat{rational.Of(1), rational.Of(2)}, Rows: []api.Affine{form("x0 + x1")}}, Goal: form("x0")}
		for j := range 4 {
			q.Graph.Units = append(q.Graph.Units, random(2+j))
		}
		s := api.Scope{Query: q}
		for range r.Intn(4) {
			s.Path = append(s.Path, []api.Decision{{Kind: 1 + r.Intn(2), Index: r.Intn(4)}, {Kind: 3 + r.Intn(2), Index: r.Intn(2), At: frac(r.Intn(7)-2, 2)}}[r.Intn(2)])
		}
		if r.Intn(3) > 0 {
			s, _ = domain.Run(box.Domain{}, s, 0)
		}
		f := random(6)
		got, e := Loop(s, f)
		p, _, _ := Program(s, f)
		want, _ := simplex.Solve(p)
		if e != api.OK || got.Status != want.Status || rational.Cmp(got.Value, want.Value) != 0 {
			t.Fatal(program.Text(p), got, want, e)
		}
		count[got.Status]++
		for _, m := range got.Proof {
			if !slices.Contains(rows.All(s), m.Row) {
				t.Fatal("row", m.Row)
			}
		}
		switch got.Status {
		case api.LPOptimal:
			sum, e := derive.Sum(s, got.Proof)
			v, _ := linear.Eval(f, got.Point)
			if e != api.OK || !linear.Equal(sum, linear.Sub(f, api.Affine{Const: got.Value})) || rational.Cmp(v, got.Value) != 0 || len(Violated(s, got.Point)) > 0 {
				t.Fatal("optimal", e)
			}
		case api.LPInfeasible:
			if !derive.Refutes(s, got.Proof) || len(got.Point) > 0 {
				t.Fatal("infeasible")
			}
		}
	}
	if slices.Min(count[1:]) == 0 {
		t.Error(count)
	}
}

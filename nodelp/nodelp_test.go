package nodelp

import (
	"math/rand"
	"slices"
	"testing"

	"relucert/api"
	"relucert/box"
	"relucert/cuts"
	"relucert/derive"
	"relucert/domain"
	"relucert/graph"
	"relucert/linear"
	"relucert/rational"
	"relucert/rows"
	"relucert/testkit"
)

var (
	frac = testkit.Frac
	form = testkit.Form
)

func sample(path ...api.Decision) api.Scope {
	return api.Scope{Query: api.Query{Graph: api.Graph{Inputs: 1, Units: []api.Affine{form("x0 - 1")}, Outputs: []api.Affine{form("x1")}}, Region: api.Region{Lo: []api.Rat{{}}, Hi: []api.Rat{rational.Of(3)}}, Goal: form("x1")}, Path: path}
}

func TestExample(t *testing.T) {
	on, off := api.Decision{Kind: api.DecOn}, api.Decision{Kind: api.DecOff}
	for _, d := range []api.Decision{on, off} {
		s := sample(d)
		x, e := Solve(s, form("x1 - x0"))
		if e != api.OK || !Exact(s) || x.Status != api.LPOptimal || rational.Cmp(x.Value, rational.Of(-1)) != 0 || !rows.Member(s, Input(s, x)) {
			t.Error(d, x, e)
		}
		if d.Kind == api.DecOff && rational.Cmp(Input(s, x)[0], rational.Of(1)) != 0 {
			t.Error("input", x)
		}
	}
	both := sample(on, off)
	lo, hi, e := Range(both, form("x0"))
	if e != api.OK || rational.Cmp(lo.Value, rational.Of(1)) != 0 || rational.Cmp(hi.Value, rational.Of(-1)) != 0 {
		t.Error(lo, hi, e)
	}
	if Exact(sample()) || Exact(api.Scope{}) {
		t.Error("exact")
	}
	if x, e := Solve(sample(), form("-x1")); e != api.OK || x.Status != api.LPUnbounded || len(x.Point)+len(x.Proof) != 0 {
		t.Error(x, e)
	}
}

func TestErrors(t *testing.T) {
	bad := sample()
	bad.Query.Goal = form("x7")
	for i, c := range []struct {
		s api.Scope
		f string
	}{{bad, "x0"}, {sample(), "x2"}} {
		x, e := Solve(c.s, form(c.f))
		lo, hi, f := Range(c.s, form(c.f))
		if e != api.ErrArg || f != api.ErrArg || x.Status+lo.Status+hi.Status != 0 {
			t.Error(i, e, f)
		}
	}
	s := sample()
	for i, x := range []api.Part{{}, {Status: api.LPOptimal}, {Status: api.LPInfeasible, Point: []api.Rat{{}, {}}}} {
		if len(Input(s, x)) != 0 {
			t.Error(i)
		}
	}
	if len(Input(api.Scope{Query: api.Query{Graph: api.Graph{Inputs: -1}}}, api.Part{Status: api.LPOptimal})) != 0 {
		t.Error("inputs")
	}
}

// TestParts solves random parts and compares with inputs and with layer 32.
func TestParts(t *testing.T) {
	r := rand.New(rand.NewSource(1))
	random := func(vars int) api.Affine {
		var terms []api.Term
		for range 3 {
			terms = append(terms, api.Term{Var: r.Intn(vars), Coef: frac(r.Intn(7)-3, 1+r.Intn(2))})
		}
		f, _ := linear.Make(terms, frac(r.Intn(5)-2, 2))
		return f
	}
	exact := 0
	for range 300 {
		q := api.Query{Graph: api.Graph{Inputs: 2, Outputs: []api.Affine{form("x0")}}, Region: api.Region{Lo: []api.Rat{rational.Of(-1), {}}, Hi: []api.Rat{rational.Of(1), rational.Of(2)}, Rows: []api.Affine{form("x0 + x1")}}, Goal: form("x0")}
		for j := range 3 {
			q.Graph.Units = append(q.Graph.Units, random(2+j))
		}
		s := api.Scope{Query: q}
		for j := range r.Intn(4) {
			s.Path = append(s.Path, api.Decision{Kind: 1 + r.Intn(2), Index: j})
		}
		if r.Intn(2) == 0 {
			s, _ = domain.Run(box.Domain{}, s, 0)
		}
		f := random(5)
		x, e := Solve(s, f)
		y, _ := cuts.Loop(s, f)
		if e != api.OK || x.Status != y.Status || rational.Cmp(x.Value, y.Value) != 0 {
			t.Fatal(x, y, e)
		}
		if x.Status == api.LPOptimal && !derive.Proves(s, linear.Sub(f, api.Affine{Const: x.Value}), x.Proof) || x.Status == api.LPInfeasible && !derive.Refutes(s, x.Proof) {
			t.Fatal("proof")
		}
		plain := s
		plain.Lemmas = nil
		before, _ := Solve(plain, f)
		for _, further := range []api.Scope{s, {Query: q, Path: append(slices.Clone(s.Path), api.Decision{Kind: api.DecAbove, Index: 1, At: frac(1, 2)})}} {
			after, _ := Solve(further, f)
			if before.Status == api.LPInfeasible && after.Status != api.LPInfeasible || before.Status == api.LPOptimal && after.Status != api.LPInfeasible && rational.Cmp(after.Value, before.Value) < 0 {
				t.Fatal("monotony", before, after)
			}
		}
		if Exact(s) {
			exact++
			if x.Status == api.LPUnbounded {
				t.Fatal("unbounded")
			}
			if x.Status == api.LPOptimal {
				in := Input(s, x)
				values, _ := graph.Values(q.Graph, in)
				if !rows.Member(s, in) {
					t.Fatal("member")
				}
				for i, v := range values {
					if rational.Cmp(v, x.Point[i]) != 0 {
						t.Fatal("point")
					}
				}
			}
		}
		for i := range 25 {
			in := []api.Rat{frac(i/5-2, 2), frac(i%5, 2)}
			if !rows.Member(s, in) {
				continue
			}
			values, _ := graph.Values(q.Graph, in)
			if v, _ := linear.Eval(f, values); x.Status == api.LPInfeasible || x.Status == api.LPOptimal && rational.Cmp(v, x.Value) < 0 {
				t.Fatal("bound", in)
			}
		}
	}
	if exact < 20 {
		t.Error(exact)
	}
}

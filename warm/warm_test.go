package warm

import (
	"math/rand"
	"testing"

	"relucert/api"
	"relucert/duals"
	"relucert/linear"
	"relucert/program"
	"relucert/rational"
	"relucert/simplex"
	"relucert/testkit"
)

var form = testkit.Form

func check(t *testing.T, s *Solver, status int, value api.Rat) {
	t.Helper()
	for range 2 {
		got, e := s.Solve()
		if e != api.OK || got.Status != status || rational.Cmp(got.Value, value) != 0 || !duals.Check(s.Program(), got) {
			t.Fatal(got, e, program.Text(s.Program()))
		}
	}
}

func TestExample(t *testing.T) {
	third, _ := rational.Frac(8, 3)
	s, e := New(api.Program{Vars: 2, Objective: form("x0 + x1"), Rows: []api.Affine{form("x0"), form("x1")}})
	if e != api.OK {
		t.Fatal(e)
	}
	check(t, s, api.LPOptimal, api.Rat{})
	s.Add(form("x0 + 2*x1 - 4"))
	check(t, s, api.LPOptimal, rational.Of(2))
	s.Add(form("x0 - x1"))
	check(t, s, api.LPOptimal, third)
	c := s.Clone()
	s.Add(form("1 - x0"))
	check(t, s, api.LPInfeasible, api.Rat{})
	s.Add(form("x1"))
	check(t, s, api.LPInfeasible, api.Rat{})
	check(t, c, api.LPOptimal, third)
	if s.Rows() != 6 || c.Rows() != 4 {
		t.Error(s.Rows(), c.Rows())
	}
}

func TestErrors(t *testing.T) {
	if s, e := New(api.Program{Vars: -1}); e != api.ErrArg || s != nil {
		t.Error(e)
	}
	var none *Solver
	if sol, e := none.Solve(); none.Add(form("x0")) != api.ErrState || e != api.ErrState || sol.Status != 0 || none.Rows() != 0 || none.Program().Vars != 0 || none.Clone() != nil {
		t.Error("nil")
	}
	s, _ := New(api.Program{Vars: 1})
	if s.Add(form("x1")) != api.ErrArg || s.Add(api.Affine{Const: api.Rat{Neg: true}}) != api.ErrArg || s.Rows() != 0 {
		t.Error("row")
	}
	for range 4096 {
		if s.Add(form("x0")) != api.OK {
			t.Fatal("add")
		}
	}
	if s.Add(form("x0")) != api.ErrLimit || s.Add(form("x1")) != api.ErrArg || s.Rows() != 4096 {
		t.Error("limit")
	}
	p := s.Program()
	p.Rows[0].Terms[0].Coef.Num[0] = 9
	if linear.Text(s.Program().Rows[0]) != "x0" {
		t.Error("shared memory")
	}
}

// TestAgainstSimplex adds random rows and compares with solutions from scratch.
func TestAgainstSimplex(t *testing.T) {
	r := rand.New(rand.NewSource(1))
	for range 300 {
		row := func() api.Affine {
			var terms []api.Term
			for range 1 + r.Intn(3) {
				c, _ := rational.Frac(r.Intn(9)-4, 1+r.Intn(2))
				terms = append(terms, api.Term{Var: r.Intn(3), Coef: c})
			}
			f, _ := linear.Make(terms, rational.Of(r.Intn(9)-3))
			return f
		}
		p := api.Program{Vars: 3, Objective: row()}
		s, _ := New(p)
		last := api.Solution{Status: api.LPUnbounded}
		for range 9 {
			f := row()
			p.Rows = append(p.Rows, f)
			s.Add(f)
			if r.Intn(3) == 0 {
				continue
			}
			if r.Intn(3) == 0 {
				s = s.Clone()
			}
			got, e := s.Solve()
			want, _ := simplex.Solve(p)
			if e != api.OK || got.Status != want.Status || rational.Cmp(got.Value, want.Value) != 0 || !duals.Check(p, got) || program.Text(s.Program()) != program.Text(p) {
				t.Fatal(program.Text(p), got, want, e)
			}
			if last.Status == api.LPInfeasible && got.Status != api.LPInfeasible || last.Status == api.LPOptimal && got.Status == api.LPOptimal && rational.Cmp(got.Value, last.Value) < 0 {
				t.Fatal("monotony")
			}
			last = got
		}
	}
}

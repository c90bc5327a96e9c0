package simplex

import (
	"math/rand"
	"slices"
	"testing"

	"relucert/api"
	"relucert/duals"
	"relucert/fourier"
	"relucert/linear"
	"relucert/program"
	"relucert/rational"
	"relucert/testkit"
)

var frac = testkit.Frac

func lp(vars int, objective string, rows ...string) api.Program {
	p := api.Program{Vars: vars}
	var e api.Errno
	if p.Objective, _, e = linear.Parse(objective); e != api.OK {
		panic(objective)
	}
	for _, s := range rows {
		f, _, e := linear.Parse(s)
		if e != api.OK {
			panic(s)
		}
		p.Rows = append(p.Rows, f)
	}
	return p
}

func solve(t *testing.T, p api.Program) api.Solution {
	t.Helper()
	s, e := Solve(p)
	if e != api.OK || !duals.Check(p, s) || s.Pivots < 0 || s.Pivots > api.MaxPivots {
		t.Fatal(program.Text(p), s, e)
	}
	return s
}

func TestExamples(t *testing.T) {
	for i, c := range []struct {
		p      api.Program
		status int
		value  api.Rat
	}{
		{lp(2, "x0 + x1", "x0 + 2*x1 - 4", "x0", "x1"), api.LPOptimal, rational.Of(2)}, {lp(2, "x0 + x1", "x0 + 2*x1 - 4", "x0", "x1", "1 - x0 - x1"), api.LPInfeasible, api.Rat{}}, {lp(1, "-x0", "x0"), api.LPUnbounded, api.Rat{}},
		{lp(0, "7"), api.LPOptimal, rational.Of(7)}, {lp(0, "7", "-1"), api.LPInfeasible, api.Rat{}}, {lp(2, "3"), api.LPOptimal, rational.Of(3)}, {lp(2, "x1", "x0"), api.LPUnbounded, api.Rat{}}, {lp(2, "x1", "x0", "-x0 - 1"), api.LPInfeasible, api.Rat{}},
		{lp(2, "x0 + x1", "x0 + x1 - 1"), api.LPOptimal, rational.Of(1)}, {lp(2, "-x0 - x1", "x0 + x1 - 1"), api.LPUnbounded, api.Rat{}}, {lp(1, "x0", "x0 - 1", "3 - x0", "x0 - 1"), api.LPOptimal, rational.Of(1)}, {lp(1, "x0", "2*x0 - 1", "1 - 2*x0"), api.LPOptimal, frac(1, 2)},
	} {
		if s := solve(t, c.p); s.Status != c.status || rational.Cmp(s.Value, c.value) != 0 {
			t.Error(i, s)
		}
	}
	for _, p := range []api.Program{{Vars: -1}, lp(1, "x1")} {
		if s, e := Solve(p); e != api.ErrArg || s.Status != 0 || len(s.Point) > 0 {
			t.Error(e)
		}
	}
}

// TestCycling solves degenerate programs, among them Beale's example, in which the greatest coefficient cycles.
func TestCycling(t *testing.T) {
	beale := lp(4, "-3/4*x0 + 150*x1 - 1/50*x2 + 6*x3", "-1/4*x0 + 60*x1 + 1/25*x2 - 9*x3", "-1/2*x0 + 90*x1 + 1/50*x2 - 3*x3", "1 - x2", "x0", "x1", "x2", "x3")
	if s := solve(t, beale); s.Status != api.LPOptimal || rational.Cmp(s.Value, frac(-1, 20)) != 0 {
		t.Error(s)
	}
	var rows []string
	for _, a := range []string{"x0", "-x0", "x1", "-x1", "x2", "-x2", "x0 - x1", "x1 - x2", "x2 - x0", "x0 + x1 + x2", "-x0 - x1 - x2"} {
		rows = append(rows, a, "2*"+a[len(a)-2:])
	}
	if s := solve(t, lp(3, "-x0 - 2*x1 - 3*x2", rows...)); s.Status != api.LPOptimal || rational.Sign(s.Value) != 0 {
		t.Error(s)
	}
}

func random(r *rand.Rand, vars, rows int) api.Program {
	p := api.Program{Vars: vars}
	form := func(c int) api.Affine {
		var terms []api.Term
		for range 1 + r.Intn(3) {
			if vars > 0 {
				terms = append(terms, api.Term{Var: r.Intn(vars), Coef: frac(r.Intn(9)-4, 1+r.Intn(2))})
			}
		}
		f, _ := linear.Make(terms, rational.Of(r.Intn(9)-c))
		return f
	}
	p.Objective = form(4)
	for range rows {
		p.Rows = append(p.Rows, form(3))
	}
	return p
}

// TestAgainstElimination compares with the other way to the same results.
func TestAgainstElimination(t *testing.T) {
	r := rand.New(rand.NewSource(1))
	count := [4]int{}
	for range 1500 {
		p := random(r, r.Intn(4), r.Intn(7))
		s := solve(t, p)
		count[s.Status]++
		status, value, e := fourier.Min(p.Objective, p.Rows, p.Vars)
		if e != api.OK || status != s.Status || rational.Cmp(value, s.Value) != 0 {
			t.Fatal(program.Text(p), s, status, value, e)
		}
		if feasible, e := fourier.Feasible(p.Rows, p.Vars); e != api.OK || feasible != (status != api.LPInfeasible) {
			t.Fatal("feasible")
		}
	}
	if slices.Min(count[1:]) < 50 {
		t.Error(count)
	}
}

func TestInvariance(t *testing.T) {
	r := rand.New(rand.NewSource(2))
	for range 300 {
		p := random(r, 4, 9)
		s := solve(t, p)
		q := api.Program{Vars: p.Vars, Objective: linear.Scale(p.Objective, rational.Of(3))}
		for _, i := range r.Perm(len(p.Rows)) {
			q.Rows = append(q.Rows, linear.Scale(p.Rows[i], frac(1+r.Intn(5), 2)), p.Rows[i])
		}
		q.Rows = append(q.Rows, linear.Add(p.Rows[0], linear.Scale(p.Rows[1], rational.Of(2))))
		u := solve(t, q)
		if u.Status != s.Status || rational.Cmp(u.Value, rational.Mul(s.Value, rational.Of(3))) != 0 {
			t.Fatal(program.Text(p), s, u)
		}
	}
}

func TestLarge(t *testing.T) {
	r := rand.New(rand.NewSource(3))
	for range 20 {
		p := random(r, 12, 28)
		for v := range 12 {
			p.Rows = append(p.Rows, api.Affine{Terms: []api.Term{{Var: v, Coef: rational.Of(-1)}}, Const: rational.Of(9)})
		}
		solve(t, p)
	}
}

// TestDuality checks what layer 27 says about a program and its dual.
func TestDuality(t *testing.T) {
	r := rand.New(rand.NewSource(4))
	for range 300 {
		p := random(r, 3, 5)
		d, e := program.Dual(p)
		if e != api.OK {
			t.Fatal(e)
		}
		s, u := solve(t, p), solve(t, d)
		switch s.Status {
		case api.LPOptimal:
			if u.Status != api.LPOptimal || rational.Cmp(u.Value, rational.Neg(s.Value)) != 0 {
				t.Fatal("optimal", program.Text(p))
			}
		case api.LPUnbounded:
			if u.Status != api.LPInfeasible {
				t.Fatal("unbounded", program.Text(p))
			}
		case api.LPInfeasible:
			if u.Status == api.LPOptimal {
				t.Fatal("infeasible", program.Text(p))
			}
		}
	}
}

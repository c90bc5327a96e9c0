package simplex

import (
	"testing"

	"relucert/api"
	"relucert/duals"
	"relucert/linear"
	"relucert/rational"
)

// TestGrowing adds rows to a tableau and to its clone, which must not influence each other.
func TestGrowing(t *testing.T) {
	form := func(s string) api.Affine {
		f, _, e := linear.Parse(s)
		if e != api.OK {
			t.Fatal(s)
		}
		return f
	}
	p := lp(3, "x0 + x2", "x0")
	a := NewTableau(p)
	check := func(a *Tableau, p api.Program, status int, value api.Rat) {
		t.Helper()
		s, e := a.Solve()
		if e != api.OK || !duals.Check(p, s) || s.Status != status || rational.Cmp(s.Value, value) != 0 {
			t.Error(s, e)
		}
	}
	check(a, p, api.LPUnbounded, api.Rat{})
	a.Add(form("2*x2 - x1 - 1"))
	p.Rows = append(p.Rows, form("2*x2 - x1 - 1"))
	check(a, p, api.LPUnbounded, api.Rat{})
	a.Add(form("x1"))
	p.Rows = append(p.Rows, form("x1"))
	check(a, p, api.LPOptimal, frac(1, 2))
	b, q := a.Clone(), p
	b.Add(form("1/3 - x2"))
	q.Rows = append(q.Rows[:3:3], form("1/3 - x2"))
	check(b, q, api.LPInfeasible, api.Rat{})
	a.Add(form("x0 + x1 - 1"))
	p.Rows = append(p.Rows[:3:3], form("x0 + x1 - 1"))
	check(a, p, api.LPOptimal, rational.Of(1))
	check(b, q, api.LPInfeasible, api.Rat{})
}

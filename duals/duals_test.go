package duals

import (
	"testing"

	"relucert/api"
	"relucert/linear"
	"relucert/rational"
	"relucert/testkit"
)

var (
	frac = testkit.Frac
	rats = testkit.Rats
)

func lp(vars int, objective string, rows ...string) api.Program {
	p := api.Program{Vars: vars}
	p.Objective, _, _ = linear.Parse(objective)
	for _, s := range rows {
		f, _, e := linear.Parse(s)
		if e != api.OK {
			panic(s)
		}
		p.Rows = append(p.Rows, f)
	}
	return p
}

func example() api.Program { return lp(2, "x0 + x1", "x0 + 2*x1 - 4", "x0", "x1") }

func TestBounds(t *testing.T) {
	p := example()
	half := []api.Rat{frac(1, 2), frac(1, 2), {}}
	if b, ok := Bound(p, half); !ok || rational.Cmp(b, rational.Of(2)) != 0 || !Slack(p, rats(0, 2), half) {
		t.Error(b, ok)
	}
	if f, ok := Combine(p, half); !ok || linear.Text(f) != "x0 + x1 - 2" {
		t.Error(f, ok)
	}
	if b, ok := Bound(p, rats(1, 0, 0)); ok || len(b.Num) != 0 {
		t.Error(b, ok)
	}
	wide := []api.Rat{{Num: api.Nat{2}, Den: api.Nat{4}}, frac(1, 2), {}}
	for _, dual := range [][]api.Rat{nil, rats(1, 0), rats(1, 0, 0, 0), rats(-1, 0, 0), wide} {
		if f, ok := Combine(p, dual); ok || len(f.Terms) != 0 {
			t.Error(dual)
		}
		if _, ok := Bound(p, dual); ok || Slack(p, rats(0, 2), dual) || Infeasible(p, dual) {
			t.Error(dual)
		}
	}
	if Slack(p, rats(0, 3), half) || Slack(p, rats(0, 0), half) || Slack(p, rats(1, 2), half) || Slack(p, nil, half) || Slack(p, []api.Rat{{}, {Num: api.Nat{2}, Den: api.Nat{1}}}, half) {
		t.Error("slack")
	}
	bad := example()
	bad.Vars = 1
	if _, ok := Combine(bad, half); ok || Slack(bad, rats(0), half) || Unbounded(bad, rats(0), rats(1)) || Optimal(bad, api.Solution{}) {
		t.Error("program")
	}
}

func TestOptimal(t *testing.T) {
	p := example()
	good := api.Solution{Status: api.LPOptimal, Value: rational.Of(2), Point: rats(0, 2), Dual: []api.Rat{frac(1, 2), frac(1, 2), {}}, Basis: []int{7}, Pivots: -3}
	if !Optimal(p, good) || !Check(p, good) {
		t.Error("optimal")
	}
	for i, change := range []func(s *api.Solution){
		func(s *api.Solution) { s.Value = rational.Of(1) }, func(s *api.Solution) { s.Point = rats(2, 0) }, func(s *api.Solution) { s.Point = rats(0, 3) }, func(s *api.Solution) { s.Point = nil }, func(s *api.Solution) { s.Dual = rats(0, 1, 1) },
		func(s *api.Solution) { s.Ray = rats(0, 0) }, func(s *api.Solution) { s.Value = api.Rat{Num: api.Nat{2}, Den: api.Nat{1}} }, func(s *api.Solution) { s.Point = []api.Rat{{Neg: true}, rational.Of(2)} },
	} {
		s := good
		change(&s)
		if Optimal(p, s) || Check(p, s) {
			t.Error(i)
		}
	}
	good.Status = 9
	if !Optimal(p, good) || Check(p, good) {
		t.Error("status")
	}
	good.Status = -1
	if Check(p, good) {
		t.Error("status")
	}
}

func TestInfeasible(t *testing.T) {
	p := lp(2, "x0 + x1", "x0 + 2*x1 - 4", "x0", "x1", "1 - x0 - x1")
	dual := rats(1, 1, 0, 2)
	s := api.Solution{Status: api.LPInfeasible, Dual: dual}
	if !Infeasible(p, dual) || !Check(p, s) || Infeasible(p, rats(1, 0, 0, 1)) || Infeasible(p, rats(0, 0, 0, 0)) || Infeasible(example(), rats(0, 0, 0)) {
		t.Error("infeasible")
	}
	for i, change := range []func(s *api.Solution){
		func(s *api.Solution) { s.Value = rational.Of(1) }, func(s *api.Solution) { s.Point = rats(0, 0) }, func(s *api.Solution) { s.Ray = rats(0, 0) }, func(s *api.Solution) { s.Dual = rats(1, 1, 0, 1) }, func(s *api.Solution) { s.Value = api.Rat{Neg: true} },
	} {
		c := s
		change(&c)
		if Check(p, c) {
			t.Error(i)
		}
	}
}

func TestUnbounded(t *testing.T) {
	p := lp(2, "x1 - x0 + 5", "x0 - 1", "x0 - x1")
	if !Unbounded(p, rats(1, 0), rats(1, 0)) || Unbounded(p, rats(0, 0), rats(1, 0)) || Unbounded(p, rats(1, 0), rats(1, 1)) || Unbounded(p, rats(1, 0), rats(-1, -3)) || Unbounded(p, rats(1, 0), rats(1)) || Unbounded(p, nil, rats(1, 0)) || Unbounded(p, rats(1, 0), []api.Rat{rational.Of(1), {Neg: true}}) {
		t.Error("unbounded")
	}
	s := api.Solution{Status: api.LPUnbounded, Point: rats(1, 0), Ray: rats(1, 0)}
	if !Check(p, s) {
		t.Error("check")
	}
	s.Dual = rats(0, 0)
	if Check(p, s) {
		t.Error("dual")
	}
	s.Dual, s.Value = nil, rational.Of(4)
	if Check(p, s) {
		t.Error("value")
	}
}

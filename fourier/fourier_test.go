package fourier

import (
	"math"
	"math/rand"
	"slices"
	"testing"

	"relucert/api"
	"relucert/linear"
	"relucert/rational"
	"relucert/testkit"
)

var (
	form  = testkit.Form
	forms = testkit.Forms
)

func equal(a, b []api.Affine) bool { return slices.EqualFunc(a, b, linear.Equal) }

func TestNormal(t *testing.T) {
	for in, want := range map[string]string{"2*x0 - 4*x1 + 1": "x0 - 2*x1 + 1/2", "-3*x1 + 6": "-x1 + 2", "7/2": "1", "0": "0", "-1/9": "-1"} {
		if s := linear.Text(Normal(form(in))); s != want {
			t.Error(in, s)
		}
	}
}

func TestEliminate(t *testing.T) {
	rows := forms("2*x0 - x1", "3 - x0", "x1")
	if got, e := Eliminate(rows, 0); e != api.OK || !equal(got, forms("x1", "-x1 + 6")) {
		t.Error(got, e)
	}
	if got, e := Eliminate(forms("2*x1 + 2", "x1 + 1", "5", "-5", "x0 - x1", "x2 - x0", "x1 - x0"), 0); e != api.OK || !equal(got, forms("x1 + 1", "-1", "-x1 + x2")) {
		t.Error(got, e)
	}
	if got, e := Eliminate(forms("x1 + 3", "4"), 7); e != api.OK || !equal(got, forms("x1 + 3")) {
		t.Error(got, e)
	}
	wide := api.Affine{Terms: []api.Term{{Var: math.MaxInt, Coef: rational.Of(2)}}}
	if got, e := Eliminate([]api.Affine{wide}, 0); e != api.OK || len(got) != 1 || got[0].Terms[0].Var != math.MaxInt {
		t.Error(got, e)
	}
	for i, c := range []struct {
		rows []api.Affine
		v    int
	}{{rows, -1}, {[]api.Affine{{Const: api.Rat{Neg: true}}}, 0}, {[]api.Affine{{Terms: []api.Term{{Var: 0}}}}, 0}, {[]api.Affine{{Terms: []api.Term{{Var: -1, Coef: rational.Of(1)}}}}, 0}} {
		if got, e := Eliminate(c.rows, c.v); e != api.ErrArg || len(got) != 0 {
			t.Error(i, e)
		}
	}
	var many []api.Affine
	for i := range 70 {
		c := rational.Of(i*i*i + 1)
		many = append(many, api.Affine{Terms: []api.Term{{Var: 0, Coef: rational.Of(1)}, {Var: 1, Coef: c}}, Const: rational.Of(i)}, api.Affine{Terms: []api.Term{{Var: 0, Coef: rational.Of(-1)}, {Var: 2, Coef: c}}})
	}
	if got, e := Eliminate(many, 0); e != api.ErrLimit || len(got) != 0 {
		t.Error(e)
	}
	if got, e := Eliminate(many[:128], 0); e != api.OK || len(got) != 4096 {
		t.Error(len(got), e)
	}
}

func TestMin(t *testing.T) {
	rows := forms("2*x0 - x1", "3 - x0", "x1")
	for i, c := range []struct {
		f      string
		rows   []api.Affine
		vars   int
		status int
		value  api.Rat
	}{
		{"x1", rows, 2, api.LPOptimal, api.Rat{}}, {"-x1", rows, 2, api.LPOptimal, rational.Of(-6)}, {"x1", forms("x0 - 1", "-x0"), 2, api.LPInfeasible, api.Rat{}}, {"x1", forms("x0 - 1"), 2, api.LPUnbounded, api.Rat{}},
		{"5", nil, 0, api.LPOptimal, rational.Of(5)}, {"5", forms("-1"), 0, api.LPInfeasible, api.Rat{}}, {"x0", forms("x0 - 2", "1 - x0"), 1, api.LPInfeasible, api.Rat{}}, {"x0", forms("x0 - 2"), math.MaxInt, api.LPOptimal, rational.Of(2)}, {"x0", forms("x0 - 2", "-1"), math.MaxInt, api.LPInfeasible, api.Rat{}},
	} {
		status, value, e := Min(form(c.f), c.rows, c.vars)
		if e != api.OK || status != c.status || rational.Cmp(value, c.value) != 0 {
			t.Error(i, status, value, e)
		}
		feasible, e := Feasible(c.rows, c.vars)
		if e != api.OK || feasible != (c.status != api.LPInfeasible) {
			t.Error(i, feasible, e)
		}
	}
	for i, c := range []struct {
		f    string
		rows []api.Affine
		vars int
	}{{"x2", rows, 2}, {"x0", forms("x2"), 2}, {"1", nil, -1}} {
		status, value, e := Min(form(c.f), c.rows, c.vars)
		if e != api.ErrArg || status != 0 || len(value.Num) != 0 {
			t.Error(i, e)
		}
	}
	if ok, e := Feasible(forms("x2"), 2); e != api.ErrArg || ok {
		t.Error(e)
	}
	if ok, e := Feasible(nil, -1); e != api.ErrArg || ok {
		t.Error(e)
	}
	var many []api.Affine
	for i := range 4097 {
		many = append(many, api.Affine{Terms: []api.Term{{Var: 3, Coef: rational.Of(1)}}, Const: rational.Of(i)})
	}
	if ok, e := Feasible(many, 4); e != api.ErrLimit || ok {
		t.Error(e)
	}
	if _, _, e := Min(form("x0"), many, 4); e != api.ErrLimit {
		t.Error(e)
	}
}

// TestProjection compares with the values of the eliminated variable.
func TestProjection(t *testing.T) {
	r := rand.New(rand.NewSource(1))
	for range 500 {
		var rows []api.Affine
		for range 5 {
			f, _ := linear.Make([]api.Term{{Var: 0, Coef: rational.Of(r.Intn(5) - 2)}, {Var: 1, Coef: rational.Of(r.Intn(5) - 2)}}, rational.Of(r.Intn(5)-2))
			rows = append(rows, f)
		}
		rest, _ := Eliminate(rows, 0)
		for k := range 9 {
			x1, _ := rational.Frac(k-4, 2)
			in := true
			for _, f := range rest {
				v, _ := linear.Eval(f, []api.Rat{{}, x1})
				in = in && rational.Sign(v) >= 0
			}
			var line []api.Affine
			for _, f := range rows {
				line = append(line, linear.Substitute(f, 1, api.Affine{Const: x1}))
			}
			if ok, _ := Feasible(line, 1); ok != in {
				t.Fatal(rows, x1)
			}
		}
	}
}

package program

import (
	"slices"
	"testing"

	"relucert/api"
	"relucert/rational"
	"relucert/testkit"
)

var (
	form  = testkit.Form
	forms = testkit.Forms
)

func TestExample(t *testing.T) {
	p := api.Program{Vars: 1, Objective: form("x0"), Rows: forms("x0 - 1", "3 - x0")}
	d, e := Dual(p)
	if e != api.OK || Text(d) != "minimize -x0 + 3*x1\nx0 >= 0\nx1 >= 0\nx0 - x1 - 1 >= 0\n-x0 + x1 + 1 >= 0\n" {
		t.Error(Text(d), e)
	}
	if Text(p) != "minimize x0\nx0 - 1 >= 0\n-x0 + 3 >= 0\n" {
		t.Error(Text(p))
	}
	y := []api.Rat{rational.Of(1), {}}
	if v, e := Value(d, y); e != api.OK || rational.Cmp(v, rational.Of(-1)) != 0 || !Feasible(d, y) {
		t.Error(v, e)
	}
	if !Feasible(p, []api.Rat{rational.Of(1)}) || Feasible(p, []api.Rat{rational.Of(4)}) || Feasible(p, nil) || Feasible(p, y) {
		t.Error("feasible")
	}
	if v, e := Value(p, []api.Rat{rational.Of(9)}); e != api.OK || rational.Cmp(v, rational.Of(9)) != 0 {
		t.Error(v, e)
	}
	if v, e := Value(p, nil); e != api.ErrRange || len(v.Num) != 0 {
		t.Error(e)
	}
}

func TestConstants(t *testing.T) {
	p := api.Program{Vars: 2, Objective: form("x1 + 5"), Rows: forms("x0 + 2*x1 - 4", "7")}
	d, e := Dual(p)
	if e != api.OK || Text(d) != "minimize -4*x0 + 7*x1 - 5\nx0 >= 0\nx1 >= 0\nx0 >= 0\n-x0 >= 0\n2*x0 - 1 >= 0\n-2*x0 + 1 >= 0\n" {
		t.Error(Text(d), e)
	}
}

func TestLimits(t *testing.T) {
	row := forms("x0")
	for i, c := range []struct {
		p    api.Program
		ok   bool
		dual api.Errno
	}{
		{api.Program{}, true, api.OK}, {api.Program{Vars: -1}, false, api.ErrArg}, {api.Program{Vars: 1281}, false, api.ErrArg}, {api.Program{Vars: 1280}, true, api.OK}, {api.Program{Vars: 1, Rows: slices.Repeat(row, 4097)}, false, api.ErrArg},
		{api.Program{Vars: 1, Rows: slices.Repeat(row, 4096)}, true, api.ErrLimit}, {api.Program{Vars: 1, Rows: slices.Repeat(row, 1281)}, true, api.ErrLimit}, {api.Program{Vars: 1, Rows: slices.Repeat(row, 1280)}, true, api.OK}, {api.Program{Vars: 1280, Rows: slices.Repeat(row, 1280)}, true, api.OK},
		{api.Program{Objective: form("x0")}, false, api.ErrArg}, {api.Program{Vars: 1, Rows: forms("x1")}, false, api.ErrArg}, {api.Program{Objective: api.Affine{Const: api.Rat{Neg: true}}}, false, api.ErrArg},
	} {
		d, e := Dual(c.p)
		_, f := Value(c.p, make([]api.Rat, max(0, c.p.Vars)))
		if Valid(c.p) != c.ok || e != c.dual || e != api.OK && (d.Vars != 0 || len(d.Rows) > 0) || (f == api.ErrArg) == c.ok || (Text(c.p) != "") != c.ok || !c.ok && Feasible(c.p, nil) {
			t.Error(i, e, f)
		}
	}
	big := api.Program{Vars: 1280, Rows: slices.Repeat(row, 1280)}
	big.Rows = append(big.Rows, row...)
	if _, e := Dual(big); e != api.ErrLimit {
		t.Error(e)
	}
}

package graph

import (
	"math/rand"
	"slices"
	"testing"

	"relucert/api"
	"relucert/linear"
	"relucert/rational"
	"relucert/testkit"
)

var frac = testkit.Frac

func forms(t *testing.T, l ...string) []api.Affine {
	t.Helper()
	var out []api.Affine
	for _, s := range l {
		f, _, e := linear.Parse(s)
		if e != api.OK {
			t.Fatal(s)
		}
		out = append(out, f)
	}
	return out
}

func maximum(t *testing.T) api.Graph {
	return api.Graph{Inputs: 2, Units: forms(t, "x0 - x1"), Outputs: forms(t, "x1 + x2")}
}

func TestValid(t *testing.T) {
	if !Valid(maximum(t)) || Vars(maximum(t)) != 3 || Valid(api.Graph{}) || Vars(api.Graph{}) != 0 || Text(api.Graph{}) != "" {
		t.Error("valid")
	}
	x := forms(t, "x0")
	for i, g := range []api.Graph{
		{Inputs: 0, Outputs: forms(t, "1")}, {Inputs: 257, Outputs: x}, {Inputs: 1}, {Inputs: 1, Outputs: slices.Repeat(x, 257)}, {Inputs: 1, Units: slices.Repeat(x, 1025), Outputs: x},
		{Inputs: 1, Units: forms(t, "x1"), Outputs: x}, {Inputs: 1, Outputs: forms(t, "x1")}, {Inputs: 1, Outputs: []api.Affine{{Const: api.Rat{Neg: true}}}},
	} {
		if Valid(g) {
			t.Error(i)
		}
	}
	if !Valid(api.Graph{Inputs: 256, Units: slices.Repeat(x, 1024), Outputs: slices.Repeat(x, 256)}) {
		t.Error("greatest graph")
	}
}

func TestValues(t *testing.T) {
	g := maximum(t)
	wide := api.Rat{Num: api.Nat{6, 0}, Den: api.Nat{4}}
	for _, c := range []struct{ x, y, pre, out api.Rat }{{rational.Of(1), wide, frac(-1, 2), frac(3, 2)}, {rational.Of(2), wide, frac(1, 2), rational.Of(2)}} {
		x := []api.Rat{c.x, c.y}
		values, e := Values(g, x)
		pre, f := Pre(g, x)
		out, h := Outputs(g, x)
		if e != api.OK || f != api.OK || h != api.OK || len(values) != 3 || rational.Cmp(pre[0], c.pre) != 0 || rational.Cmp(out[0], c.out) != 0 || rational.Cmp(values[2], rational.Max(api.Rat{}, c.pre)) != 0 || !rational.Valid(values[1]) {
			t.Error(c, values, pre, out)
		}
	}
	for _, x := range [][]api.Rat{nil, {wide}, {wide, wide, wide}} {
		v, e := Values(g, x)
		p, f := Pre(g, x)
		o, h := Outputs(g, x)
		if e != api.ErrArg || f != api.ErrArg || h != api.ErrArg || len(v)+len(p)+len(o) != 0 {
			t.Error(x, e, f, h)
		}
	}
	if _, e := Outputs(api.Graph{}, nil); e != api.ErrArg {
		t.Error(e)
	}
}

func TestText(t *testing.T) {
	if s := Text(maximum(t)); s != "inputs 2\nx2 = max(0, x0 - x1)\ny0 = x1 + x2\n" {
		t.Error(s)
	}
	s, e := Scale(maximum(t), 0, rational.Of(2))
	if e != api.OK || Text(s) != "inputs 2\nx2 = max(0, 2*x0 - 2*x1)\ny0 = x1 + 1/2*x2\n" {
		t.Error(Text(s), e)
	}
}

func TestEqual(t *testing.T) {
	a, b := maximum(t), maximum(t)
	if !Equal(a, b) || !Equal(api.Graph{Units: []api.Affine{}}, api.Graph{}) {
		t.Error("equal")
	}
	b.Outputs[0].Const.Den = api.Nat{1}
	if Equal(a, b) || Equal(a, api.Graph{Inputs: 2, Units: a.Units, Outputs: a.Units}) {
		t.Error("different")
	}
}

func TestErrors(t *testing.T) {
	g, one := maximum(t), rational.Of(1)
	full := api.Graph{Inputs: 1, Units: slices.Repeat(forms(t, "x0"), 1024), Outputs: forms(t, "x0")}
	chain := api.Graph{Inputs: 1, Units: forms(t, "x0", "x1"), Outputs: forms(t, "x2")}
	check := func(name string, got api.Graph, e, want api.Errno) {
		t.Helper()
		if e != want || got.Inputs != 0 || len(got.Units)+len(got.Outputs) != 0 {
			t.Error(name, e)
		}
	}
	h, e := Scale(g, 1, one)
	check("no unit", h, e, api.ErrRange)
	h, e = Scale(g, 5, rational.Of(-1))
	check("negative", h, e, api.ErrArg)
	h, e = Scale(g, 0, api.Rat{})
	check("zero", h, e, api.ErrArg)
	h, e = Scale(api.Graph{}, 0, one)
	check("graph", h, e, api.ErrArg)
	h, e = Permute(chain, []int{1, 0})
	check("order", h, e, api.ErrState)
	for _, order := range [][]int{{0}, {0, 0}, {0, 2}, {-1, 0}, {0, 1, 2}} {
		h, e = Permute(chain, order)
		check("permutation", h, e, api.ErrArg)
	}
	h, e = Halve(full, 0)
	check("full", h, e, api.ErrLimit)
	h, e = Halve(full, 1024)
	check("range", h, e, api.ErrRange)
	h, e = Halve(api.Graph{}, 0)
	check("invalid", h, e, api.ErrArg)
}

func random(r *rand.Rand) api.Graph {
	g := api.Graph{Inputs: 1 + r.Intn(3)}
	form := func(vars int) api.Affine {
		var terms []api.Term
		for range r.Intn(4) {
			terms = append(terms, api.Term{Var: r.Intn(vars), Coef: frac(r.Intn(9)-4, 1+r.Intn(3))})
		}
		f, _ := linear.Make(terms, frac(r.Intn(5)-2, 2))
		return f
	}
	for j := range 1 + r.Intn(5) {
		g.Units = append(g.Units, form(g.Inputs+j))
	}
	g.Outputs = []api.Affine{form(g.Inputs + len(g.Units)), form(g.Inputs + len(g.Units))}
	return g
}

func TestSameFunction(t *testing.T) {
	r := rand.New(rand.NewSource(1))
	for range 300 {
		g := random(r)
		text := Text(g)
		unit := r.Intn(len(g.Units))
		changed := []api.Graph{}
		if s, e := Scale(g, unit, api.Rat{Num: api.Nat{4}, Den: api.Nat{6}}); e == api.OK {
			changed = append(changed, s)
		}
		if h, e := Halve(g, unit); e == api.OK && len(h.Units) == len(g.Units)+1 {
			changed = append(changed, h)
		}
		if len(changed) != 2 {
			t.Fatal("not changed")
		}
		if p, e := Permute(g, r.Perm(len(g.Units))); e == api.OK {
			changed = append(changed, p)
		} else if e != api.ErrState {
			t.Fatal(e)
		}
		var x []api.Rat
		for range g.Inputs {
			x = append(x, frac(r.Intn(9)-4, 3))
		}
		want, _ := Outputs(g, x)
		values, _ := Values(g, x)
		pre, _ := Pre(g, x)
		for j, p := range pre {
			v := values[g.Inputs+j]
			if rational.Sign(v) < 0 || rational.Cmp(v, p) < 0 || rational.Sign(v) != 0 && rational.Cmp(v, p) != 0 {
				t.Fatal("unit", j)
			}
		}
		for _, h := range append(changed, random(r)) {
			if Equal(g, h) != (Text(g) == Text(h)) {
				t.Fatal("text", text)
			}
		}
		for _, h := range changed {
			got, e := Outputs(h, x)
			if e != api.OK || !slices.EqualFunc(got, want, equalFields) {
				t.Fatal(text, Text(h))
			}
		}
		if Text(g) != text {
			t.Fatal("modified")
		}
	}
}

func TestPermute(t *testing.T) {
	g := api.Graph{Inputs: 1, Units: forms(t, "x0", "-x0", "x1 + x2"), Outputs: forms(t, "x1 - x2 + x3")}
	p, e := Permute(g, []int{1, 0, 2})
	if e != api.OK || Text(p) != "inputs 1\nx1 = max(0, -x0)\nx2 = max(0, x0)\nx3 = max(0, x1 + x2)\ny0 = -x1 + x2 + x3\n" {
		t.Error(Text(p), e)
	}
}

package verify

import (
	"math/rand"
	"testing"

	"relucert/api"
	"relucert/claim"
	"relucert/evaluate"
	"relucert/graph"
	"relucert/linear"
	"relucert/rational"
	"relucert/region"
	"relucert/rows"
	"relucert/testkit"
)

var (
	frac = testkit.Frac
	rats = testkit.Rats
	form = testkit.Form
)

func maximum() api.Graph {
	return api.Graph{Inputs: 2, Units: []api.Affine{form("x0 - x1")}, Outputs: []api.Affine{form("x1 + x2")}}
}

func square() api.Region { return api.Region{Lo: rats(0, 0), Hi: rats(1, 1)} }

func parse(s string) api.Claim {
	c, _, e := claim.Parse(s)
	if e != api.OK {
		panic(s)
	}
	return c
}

func TestExample(t *testing.T) {
	g, r, o := maximum(), square(), api.Options{Nodes: 10}
	v, e := Verify(g, r, parse("y0 >= 0"), o)
	if e != api.OK || v.Status != api.Proved || len(v.Cert.Trees) != 1 || v.Nodes < 1 || v.Cert.Digest != [32]byte{} {
		t.Error(v, e)
	}
	v, e = Verify(g, r, parse("y0 >= 0; y0 >= 1/2; y0 <= 0"), o)
	if e != api.OK || v.Status != api.Broken || v.Goal != 1 || len(v.Cert.Trees) != 0 || !region.Contains(r, v.Input) {
		t.Error(v, e)
	}
	if y, _ := graph.Outputs(g, v.Input); rational.Cmp(y[0], frac(1, 2)) >= 0 {
		t.Error(y)
	}
	i, e := Range(g, r, form("x0"), o)
	if e != api.OK || rational.Sign(i.Lo) != 0 || rational.Cmp(i.Hi, rational.Of(1)) != 0 {
		t.Error(i, e)
	}
	x, in, e := Least(api.Query{Graph: g, Region: r, Goal: form("x1 + x2 - x0")}, o)
	if e != api.OK || rational.Sign(x) != 0 || len(in) != 2 {
		t.Error(x, in, e)
	}
	r.Rows = []api.Affine{form("x0 - x1 - 1/4")}
	i, e = Range(g, r, form("x0"), o)
	if e != api.OK || rational.Cmp(i.Lo, frac(1, 4)) != 0 || rational.Cmp(i.Hi, rational.Of(1)) != 0 {
		t.Error(i, e)
	}
}

func TestMargin(t *testing.T) {
	m := api.Model{Input: []int{2}, Layers: []api.Layer{{Kind: api.LayerDense, Out: 2, Weights: rats(1, 0, 0, 1), Bias: rats(0, 0)}}}
	g, e := Graph(m)
	if e != api.OK || len(g.Units) != 0 {
		t.Fatal(e)
	}
	r := api.Region{Lo: rats(1, 0), Hi: []api.Rat{rational.Of(2), frac(1, 2)}}
	o := api.Options{Nodes: 1}
	if x, e := Margin(g, r, 0, o); e != api.OK || rational.Cmp(x, frac(1, 2)) != 0 {
		t.Error(x, e)
	}
	if x, e := Margin(g, r, 1, o); e != api.OK || rational.Cmp(x, rational.Of(-2)) != 0 {
		t.Error(x, e)
	}
	for s, want := range map[string]int{"top 0 margin 1/2": api.Proved, "top 0 margin 51/100": api.Broken, "top 0": api.Proved, "top 1": api.Broken} {
		if v, e := Verify(g, r, parse(s), o); e != api.OK || v.Status != want {
			t.Error(s, v.Status, e)
		}
	}
	single := api.Graph{Inputs: 1, Outputs: []api.Affine{form("x0")}}
	point := api.Region{Lo: rats(0), Hi: rats(0)}
	if v, e := Verify(single, point, parse("top 0"), o); e != api.OK || v.Status != api.Proved || len(v.Cert.Trees) != 0 || v.Nodes != 0 {
		t.Error(v, e)
	}
	for _, target := range []int{-1, 0, 1} {
		if x, e := Margin(single, point, target, o); e != api.ErrArg || len(x.Num) != 0 {
			t.Error(target, e)
		}
	}
}

func TestErrors(t *testing.T) {
	g, r, c, o := maximum(), square(), parse("y0 >= 0"), api.Options{Nodes: 3}
	bad := api.Region{Lo: rats(0), Hi: rats(1)}
	for i, x := range []struct {
		g api.Graph
		r api.Region
		c api.Claim
		o api.Options
	}{{api.Graph{}, r, c, o}, {g, bad, c, o}, {g, r, parse("y1 >= 0"), o}, {g, r, api.Claim{}, o}, {g, r, c, api.Options{}}, {g, r, parse("top 0"), api.Options{}}} {
		if v, e := Verify(x.g, x.r, x.c, x.o); e != api.ErrArg || v.Status != 0 {
			t.Error(i, e)
		}
		over := form("x0")
		if len(x.c.Rows) > 0 {
			over = x.c.Rows[0]
		}
		if i == 3 {
			continue
		}
		if v, e := Range(x.g, x.r, over, x.o); e != api.ErrArg || len(v.Hi.Num) != 0 {
			t.Error("range", i, e)
		}
		if i == 2 {
			continue
		}
		two := x.g
		two.Outputs = append(two.Outputs, two.Outputs...)
		if v, e := Margin(two, x.r, 0, x.o); e != api.ErrArg || len(v.Num) != 0 {
			t.Error("margin", i, e)
		}
		goal, _ := rows.Goal(x.g, form("x0"))
		if v, in, e := Least(api.Query{Graph: x.g, Region: x.r, Goal: goal}, x.o); e != api.ErrArg || len(v.Num)+len(in) != 0 {
			t.Error("least", i, e)
		}
	}
	empty := r
	empty.Rows = []api.Affine{form("x0 - 2")}
	if _, in, e := Least(api.Query{Graph: g, Region: empty, Goal: form("x2")}, o); e != api.ErrNone || len(in) != 0 {
		t.Error(e)
	}
	if _, e := Range(g, empty, form("x0"), o); e != api.ErrNone {
		t.Error(e)
	}
	if _, e := Graph(api.Model{}); e != api.ErrArg {
		t.Error(e)
	}
	same := api.Query{Graph: api.Graph{Inputs: 1, Units: []api.Affine{form("x0"), form("x0")}, Outputs: []api.Affine{form("x0")}}, Region: api.Region{Lo: rats(-1), Hi: rats(1)}, Goal: form("x1 - x2")}
	if x, in, e := Least(same, api.Options{Nodes: 1}); e != api.ErrLimit || len(x.Num)+len(in) != 0 {
		t.Error(e)
	}
	if x, _, e := Least(same, api.Options{Nodes: 7}); e != api.OK || len(x.Num) != 0 {
		t.Error(x, e)
	}
	same.Graph.Outputs = []api.Affine{same.Goal, form("x1 - 2*x2 - 5")}
	v, e := Verify(same.Graph, same.Region, parse("y0 >= 0; y1 >= 0"), api.Options{Nodes: 1})
	if e != api.OK || v.Status != api.Broken || v.Goal != 1 {
		t.Error("a goal behind an exhausted one", v, e)
	}
	v, e = Verify(same.Graph, same.Region, parse("y0 >= 0; y0 >= -1"), api.Options{Nodes: 1})
	if e != api.OK || v.Status != api.Exhausted || v.Goal != 0 || v.Nodes != 2 || len(v.Cert.Trees) != 0 {
		t.Error("exhausted", v, e)
	}
}

// TestRandom compares verdicts, least values and ranges with each other and with inputs.
func TestRandom(t *testing.T) {
	r := rand.New(rand.NewSource(1))
	weights := func(n int) []api.Rat {
		var l []api.Rat
		for range n {
			l = append(l, frac(r.Intn(9)-4, 1+r.Intn(3)))
		}
		return l
	}
	monotone := 0
	for range 60 {
		m := api.Model{Input: []int{2}, Layers: []api.Layer{{Kind: api.LayerDense, Out: 3, Weights: weights(6), Bias: weights(3)}, {Kind: api.LayerRelu}, {Kind: api.LayerDense, Out: 2, Weights: weights(6), Bias: weights(2)}, {Kind: api.LayerRelu}, {Kind: api.LayerDense, Out: 3, Weights: weights(6), Bias: weights(3)}}}
		g, e := Graph(m)
		if e != api.OK {
			t.Fatal(e)
		}
		reg := api.Region{Lo: rats(-1, 0), Hi: rats(1, 1)}
		o := api.Options{Domain: r.Intn(3), Rule: r.Intn(4), Cuts: r.Intn(2) == 0, Learn: r.Intn(2) == 0, Bits: r.Intn(2) * 8, Nodes: 1 << (len(g.Units) + 5), Workers: r.Intn(4)}
		small := o
		small.Nodes = 1<<(len(g.Units)+1) - 1
		margin, e := Margin(g, reg, 1, small)
		if e != api.OK {
			t.Fatal(e)
		}
		for d := -1; d <= 1; d++ {
			at := rational.Add(margin, frac(d, 10))
			if rational.Sign(at) < 0 {
				continue
			}
			v, e := Verify(g, reg, api.Claim{Kind: api.ClaimTop, Target: 1, Margin: at}, o)
			if e != api.OK || (v.Status == api.Proved) != (d <= 0) || v.Status == api.Exhausted {
				t.Fatal("margin", v.Status, d, e)
			}
		}
		if small, e := region.Clip(reg, api.Decision{Kind: api.DecAbove, At: frac(1, 3)}); e == api.OK && rational.Sign(margin) > 0 {
			for _, at := range []api.Rat{margin, rational.Mul(margin, frac(1, 2))} {
				v, e := Verify(g, small, api.Claim{Kind: api.ClaimTop, Target: 1, Margin: at}, o)
				if e != api.OK || v.Status != api.Proved {
					t.Fatal("monotony", v.Status, e)
				}
				monotone++
			}
		}
		over := form("x0 - 2*x1 + x2")
		box, e := Range(g, reg, over, small)
		if e != api.OK {
			t.Fatal(e)
		}
		goal, _ := rows.Goal(g, over)
		low, in, _ := Least(api.Query{Graph: g, Region: reg, Goal: goal}, small)
		y, _ := graph.Outputs(g, in)
		if v, _ := linear.Eval(over, y); rational.Cmp(v, low) != 0 || rational.Cmp(low, box.Lo) != 0 || !region.Contains(reg, in) {
			t.Fatal("least", low, box)
		}
		for i := range 15 {
			x := []api.Rat{frac(i%5-2, 2), frac(i/5, 2)}
			y, _ := evaluate.Run(m, x)
			if v, _ := linear.Eval(over, y); rational.Cmp(v, box.Lo) < 0 || rational.Cmp(v, box.Hi) > 0 {
				t.Fatal("range", v, box)
			}
		}
	}
	if monotone == 0 {
		t.Error("no margin is positive")
	}
}

package witness

import (
	"math/rand"
	"testing"

	"relucert/api"
	"relucert/linear"
	"relucert/natural"
	"relucert/rational"
	"relucert/region"
	"relucert/search"
	"relucert/testkit"
)

var (
	frac = testkit.Frac
	form = testkit.Form
)

func sample(goal string) api.Query {
	return api.Query{Graph: api.Graph{Inputs: 1, Units: []api.Affine{form("x0 - 1")}, Outputs: []api.Affine{form("x1")}}, Region: api.Region{Lo: []api.Rat{{}}, Hi: []api.Rat{rational.Of(3)}}, Goal: form(goal)}
}

func TestExample(t *testing.T) {
	q := sample("1/2 - x1")
	if !Check(q, []api.Rat{frac(8, 5)}) || Check(q, []api.Rat{frac(3, 2)}) || Check(q, []api.Rat{rational.Of(4)}) || Check(q, nil) || Check(sample("x9"), []api.Rat{frac(8, 5)}) {
		t.Error("check")
	}
	if x, e := Simplify(q, []api.Rat{frac(8, 5)}); e != api.OK || len(x) != 1 || rational.Cmp(x[0], rational.Of(2)) != 0 {
		t.Error(x, e)
	}
	if x, ok := Attack(q); !ok || rational.Cmp(x[0], rational.Of(3)) != 0 {
		t.Error(x, ok)
	}
	if x, e := Simplify(q, []api.Rat{rational.Of(1)}); e != api.ErrArg || len(x) != 0 {
		t.Error(e)
	}
}

func TestSimplify(t *testing.T) {
	for i, c := range []struct {
		goal, row string
		x, want   api.Rat
	}{
		{"x1 - 1/2", "", frac(4, 3), rational.Of(1)},      // on the piece x0 >= 1, below 3/2
		{"x1 - 1/2", "", frac(7, 9), rational.Of(0)},      // on the piece x0 <= 1
		{"x0 - 5/2", "x0 - 9/4", frac(19, 8), frac(7, 3)}, // between 9/4 and the midpoint of 5/2 and 19/8
		{"-1", "7/3 - x0", frac(22, 10), rational.Of(1)},  // on the piece from 1 to 7/3
		{"x0 - 3", "", frac(29, 10), rational.Of(1)},      // the end 3 is not included
		{"5/2 - x0", "x0 - 5/2", frac(28, 10), rational.Of(3)},
	} {
		q := sample(c.goal)
		if c.row != "" {
			q.Region.Rows = []api.Affine{form(c.row)}
		}
		if x, e := Simplify(q, []api.Rat{c.x}); e != api.OK || rational.Cmp(x[0], c.want) != 0 {
			t.Error(i, x, e)
		}
	}
}

func TestAttack(t *testing.T) {
	if x, ok := Attack(sample("x1")); ok || len(x) != 0 {
		t.Error(x)
	}
	q := sample("-1")
	q.Region.Rows = []api.Affine{form("x0 - 7/4"), form("2 - x0")}
	if x, ok := Attack(q); ok || len(x) != 0 {
		t.Error("no first input", x)
	}
	if x, ok := Attack(sample("x9")); ok || len(x) != 0 {
		t.Error("query")
	}
	// Only the fifth corner of the cube is cut off by nothing, and the least value is found beside it.
	cube := api.Query{Graph: api.Graph{Inputs: 3, Outputs: []api.Affine{form("x0")}}, Region: api.Region{Lo: make([]api.Rat, 3), Hi: []api.Rat{rational.Of(1), rational.Of(1), rational.Of(1)}, Rows: []api.Affine{form("x0 + x2 - 3/2")}}, Goal: form("x1 - 1/2")}
	x, ok := Attack(cube)
	if !ok || rational.Sign(x[1]) != 0 || rational.Cmp(x[0], rational.Of(1)) != 0 || rational.Cmp(x[2], rational.Of(1)) != 0 {
		t.Error(x, ok)
	}
	// With more than six inputs, the corners leave the later ones at their lower ends, and the rounds move them.
	wide := api.Query{Graph: api.Graph{Inputs: 8, Outputs: []api.Affine{form("x0")}}, Goal: form("3/2 - x6 - x7")}
	for range 8 {
		wide.Region.Lo = append(wide.Region.Lo, api.Rat{})
		wide.Region.Hi = append(wide.Region.Hi, rational.Of(1))
	}
	x, ok = Attack(wide)
	if !ok || rational.Cmp(x[6], rational.Of(1)) != 0 || rational.Cmp(x[7], rational.Of(1)) != 0 || rational.Cmp(x[0], frac(1, 2)) != 0 {
		t.Error(x, ok)
	}
}

// TestRandom simplifies witnesses of searches and attacks random queries.
func TestRandom(t *testing.T) {
	r := rand.New(rand.NewSource(1))
	draw := func(vars int) api.Affine {
		var terms []api.Term
		for range 3 {
			terms = append(terms, api.Term{Var: r.Intn(vars), Coef: frac(r.Intn(7)-3, 1+r.Intn(2))})
		}
		f, _ := linear.Make(terms, frac(r.Intn(5)-2, 2))
		return f
	}
	witnesses := 0
	for range 300 {
		q := api.Query{Graph: api.Graph{Inputs: 2, Outputs: []api.Affine{form("x0")}}, Region: api.Region{Lo: []api.Rat{frac(-8, 7), {}}, Hi: []api.Rat{rational.Of(1), frac(19, 9)}}}
		for j := range 3 {
			q.Graph.Units = append(q.Graph.Units, draw(2+j))
		}
		q.Goal = draw(5)
		q.Region.Rows = []api.Affine{draw(2)}
		out, _ := search.Search(q, api.Options{Nodes: 1000})
		if x, ok := Attack(q); ok && (!Check(q, x) || out.Status != api.Broken) {
			t.Fatal("attack", x)
		}
		if out.Status != api.Broken {
			continue
		}
		witnesses++
		x, e := Simplify(q, out.Input)
		if e != api.OK || !Check(q, x) || !region.Contains(q.Region, x) {
			t.Fatal(x, e)
		}
		for i := range x {
			if natural.Cmp(rational.Den(x[i]), rational.Den(out.Input[i])) > 0 {
				t.Fatal("denominator", x, out.Input)
			}
		}
	}
	if witnesses < 50 {
		t.Error(witnesses)
	}
}

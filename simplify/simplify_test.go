package simplify

import (
	"math/rand"
	"slices"
	"testing"

	"relucert/api"
	"relucert/graph"
	"relucert/linear"
	"relucert/rational"
)

func forms(t *testing.T, l ...string) []api.Affine {
	t.Helper()
	var out []api.Affine
	for _, s := range l {
		f, _, e := linear.Parse(s)
		if e != api.OK {
			t.Fatal(s)
		}
		out = append(out, f)
	}
	return out
}

func TestExample(t *testing.T) {
	g := api.Graph{Inputs: 1, Units: forms(t, "-1", "x0", "x0"), Outputs: forms(t, "x1 + x2 - x3")}
	for _, c := range []struct {
		g    api.Graph
		want string
	}{
		{Constants(g), "inputs 1\nx1 = max(0, x0)\nx2 = max(0, x0)\ny0 = x1 - x2\n"}, {Duplicates(g), "inputs 1\nx1 = max(0, -1)\nx2 = max(0, x0)\ny0 = x1\n"},
		{Dead(g), graph.Text(g)}, {Simplify(g), "inputs 1\ny0 = 0\n"},
	} {
		if s := graph.Text(c.g); s != c.want {
			t.Error(s, c.want)
		}
	}
}

func TestOperations(t *testing.T) {
	g := api.Graph{Inputs: 1, Units: forms(t, "2", "x0 + x1", "x0 + 2", "x0 - x1", "x4 + x2"), Outputs: forms(t, "x3 + 1", "x1")}
	if s := graph.Text(Constants(g)); s != "inputs 1\nx1 = max(0, x0 + 2)\nx2 = max(0, x0 + 2)\nx3 = max(0, x0 - 2)\nx4 = max(0, x1 + x3)\ny0 = x2 + 1\ny1 = 2\n" {
		t.Error(s)
	}
	if s := graph.Text(Dead(g)); s != "inputs 1\nx1 = max(0, 2)\nx2 = max(0, x0 + 2)\ny0 = x2 + 1\ny1 = x1\n" {
		t.Error(s)
	}
	if s := graph.Text(Simplify(g)); s != "inputs 1\nx1 = max(0, x0 + 2)\ny0 = x1 + 1\ny1 = 2\n" {
		t.Error(s)
	}
	chain := api.Graph{Inputs: 1, Units: forms(t, "-3", "x1 - 1", "x2 + 1"), Outputs: forms(t, "x3")}
	if s := graph.Text(Constants(chain)); s != "inputs 1\ny0 = 1\n" {
		t.Error(s)
	}
	for _, f := range []func(api.Graph) api.Graph{Constants, Duplicates, Dead, Simplify} {
		if h := f(api.Graph{Inputs: 1, Units: forms(t, "x1"), Outputs: forms(t, "x0")}); h.Inputs != 0 || len(h.Units)+len(h.Outputs) != 0 {
			t.Error("not valid", h)
		}
	}
}

func TestEquivalence(t *testing.T) {
	r := rand.New(rand.NewSource(1))
	for range 300 {
		g := api.Graph{Inputs: 2}
		form := func(vars int) api.Affine {
			var terms []api.Term
			for range r.Intn(3) {
				terms = append(terms, api.Term{Var: r.Intn(vars), Coef: rational.Of(r.Intn(3) - 1)})
			}
			f, _ := linear.Make(terms, rational.Of(r.Intn(3)-1))
			return f
		}
		for j := range 8 {
			g.Units = append(g.Units, form(2+j))
		}
		g.Outputs = []api.Affine{form(10), form(10)}
		text := graph.Text(g)
		s := Simplify(g)
		for _, h := range []api.Graph{Constants(g), Duplicates(g), Dead(g), s} {
			if !graph.Valid(h) || len(h.Units) > len(g.Units) || h.Inputs != 2 {
				t.Fatal(text)
			}
			for range 5 {
				x := []api.Rat{rational.Of(r.Intn(9) - 4), rational.Of(r.Intn(9) - 4)}
				want, _ := graph.Outputs(g, x)
				got, _ := graph.Outputs(h, x)
				if !slices.EqualFunc(got, want, func(a, b api.Rat) bool { return rational.Cmp(a, b) == 0 }) {
					t.Fatal(text, graph.Text(h))
				}
			}
		}
		for _, h := range []api.Graph{Constants(s), Duplicates(s), Dead(s), Simplify(s)} {
			if !graph.Equal(h, s) {
				t.Fatal("not complete", graph.Text(s))
			}
		}
		if graph.Text(g) != text {
			t.Fatal("modified")
		}
	}
}

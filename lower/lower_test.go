package lower

import (
	"math/rand"
	"slices"
	"testing"

	"relucert/api"
	"relucert/evaluate"
	"relucert/graph"
	"relucert/rational"
	"relucert/testkit"
)

var rats = testkit.Rats

func random(r *rand.Rand, n int) []api.Rat {
	var l []api.Rat
	for range n {
		x, _ := rational.Frac(r.Intn(11)-5, 1+r.Intn(3))
		l = append(l, x)
	}
	return l
}

func TestExamples(t *testing.T) {
	relu := api.Layer{Kind: api.LayerRelu}
	g, e := Lower(api.Model{Input: []int{2}, Layers: []api.Layer{{Kind: api.LayerDense, Out: 1, Weights: rats(1, -1), Bias: rats(0)}, relu}})
	if e != api.OK || graph.Text(g) != "inputs 2\nx2 = max(0, x0 - x1)\ny0 = x2\n" {
		t.Error(graph.Text(g), e)
	}
	g, e = Lower(api.Model{Input: []int{1, 2, 2}, Layers: []api.Layer{{Kind: api.LayerMaxPool, KH: 2, KW: 2, Stride: 1}}})
	if e != api.OK || graph.Text(g) != "inputs 4\nx4 = max(0, -x0 + x1)\nx5 = max(0, -x2 + x3)\nx6 = max(0, -x0 + x2 - x4 + x5)\ny0 = x0 + x4 + x6\n" {
		t.Error(graph.Text(g), e)
	}
	g, e = Lower(api.Model{Input: []int{1, 1, 3}, Layers: []api.Layer{{Kind: api.LayerMaxPool, KH: 1, KW: 3, Stride: 1}}})
	if e != api.OK || graph.Text(g) != "inputs 3\nx3 = max(0, -x0 + x1)\nx4 = max(0, -x0 + x2 - x3)\ny0 = x0 + x3 + x4\n" {
		t.Error(graph.Text(g), e)
	}
	g, e = Lower(api.Model{Input: []int{1}, Layers: []api.Layer{{Kind: api.LayerDense, Out: 1, Weights: rats(0), Bias: rats(-2)}, relu}})
	if e != api.OK || graph.Text(g) != "inputs 1\nx1 = max(0, -2)\ny0 = x1\n" {
		t.Error(graph.Text(g), e)
	}
}

func TestLimits(t *testing.T) {
	relu := api.Layer{Kind: api.LayerRelu}
	narrow := api.Layer{Kind: api.LayerDense, Out: 1, Weights: make([]api.Rat, 300), Bias: rats(0)}
	for name, c := range map[string]struct {
		m     api.Model
		units int
		e     api.Errno
		count api.Errno
	}{
		"inputs":  {api.Model{Input: []int{300}, Layers: []api.Layer{narrow}}, 0, api.ErrLimit, api.OK},
		"outputs": {api.Model{Input: []int{1}, Layers: []api.Layer{{Kind: api.LayerDense, Out: 257, Weights: make([]api.Rat, 257), Bias: make([]api.Rat, 257)}}}, 0, api.ErrLimit, api.OK},
		"units":   {api.Model{Input: []int{256}, Layers: []api.Layer{relu, relu, relu, relu, relu}}, 1280, api.ErrLimit, api.OK},
		"most":    {api.Model{Input: []int{256}, Layers: []api.Layer{relu, relu, relu, relu}}, 1024, api.OK, api.OK},
		"invalid": {api.Model{}, 0, api.ErrArg, api.ErrArg},
		"shape":   {api.Model{Input: []int{2}, Layers: []api.Layer{narrow}}, 0, api.ErrShape, api.ErrShape},
	} {
		g, e := Lower(c.m)
		n, f := Count(c.m)
		if e != c.e || f != c.count || n != c.units || (e != api.OK) != (g.Inputs == 0) {
			t.Error(name, e, f, n)
		}
	}
}

func TestEquivalence(t *testing.T) {
	r := rand.New(rand.NewSource(1))
	for range 40 {
		m := api.Model{Input: []int{2, 3, 3}, Layers: []api.Layer{
			{Kind: api.LayerConv, Out: 2, KH: 2, KW: 2, Stride: 1, Pad: 1, Weights: random(r, 16), Bias: random(r, 2)}, {Kind: api.LayerRelu},
			{Kind: api.LayerMaxPool, KH: 2, KW: 2, Stride: 1}, {Kind: api.LayerAdd, From: -1}, {Kind: api.LayerAvgPool, KH: 2, KW: 2, Stride: 1},
			{Kind: api.LayerFlatten}, {Kind: api.LayerDense, Out: 3, Weights: random(r, 24), Bias: random(r, 3)}, {Kind: api.LayerRelu}, {Kind: api.LayerAdd, From: 6},
		}}
		n, _ := Count(m)
		g, e := Lower(m)
		if e != api.OK || !graph.Valid(g) || n != len(g.Units) || n != 32+3*18+3 {
			t.Fatal(e, n, len(g.Units))
		}
		for range 5 {
			x := random(r, 18)
			want, _ := evaluate.Run(m, x)
			got, e := graph.Outputs(g, x)
			if e != api.OK || !slices.EqualFunc(got, want, func(a, b api.Rat) bool { return rational.Cmp(a, b) == 0 }) {
				t.Fatal(got, want, e)
			}
		}
	}
}

package evaluate

import (
	"math/rand"
	"slices"
	"testing"

	"relucert/api"
	"relucert/rational"
	"relucert/testkit"
)

var (
	frac = testkit.Frac
	rats = testkit.Rats
)

func same(a, b []api.Rat) bool {
	return slices.EqualFunc(a, b, func(x, y api.Rat) bool { return rational.Valid(x) && rational.Cmp(x, y) == 0 })
}

func TestLayers(t *testing.T) {
	image := []int{1, 2, 3}
	for name, c := range map[string]struct {
		input []int
		l     []api.Layer
		x     []api.Rat
		want  []api.Rat
	}{
		"example":  {[]int{2}, []api.Layer{{Kind: api.LayerDense, Out: 1, Weights: rats(1, -1), Bias: rats(0)}, {Kind: api.LayerRelu}}, rats(1, 3), rats(0)},
		"positive": {[]int{2}, []api.Layer{{Kind: api.LayerDense, Out: 1, Weights: rats(1, -1), Bias: rats(0)}, {Kind: api.LayerRelu}}, rats(3, 1), rats(2)},
		"dense":    {[]int{2}, []api.Layer{{Kind: api.LayerDense, Out: 2, Weights: rats(1, 2, 3, 4), Bias: rats(5, 6)}}, rats(1, -1), rats(4, 5)},
		"conv":     {image, []api.Layer{{Kind: api.LayerConv, Out: 1, KH: 2, KW: 2, Stride: 1, Weights: rats(1, 10, 100, 1000), Bias: rats(7)}}, rats(1, 2, 3, 4, 5, 6), rats(5428, 6539)},
		"padding":  {[]int{1, 1, 1}, []api.Layer{{Kind: api.LayerConv, Out: 2, KH: 2, KW: 2, Stride: 1, Pad: 1, Weights: rats(1, 2, 3, 4, 5, 6, 7, 8), Bias: rats(0, 1)}}, rats(2), rats(8, 6, 4, 2, 17, 15, 13, 11)},
		"channels": {[]int{2, 1, 2}, []api.Layer{{Kind: api.LayerConv, Out: 1, KH: 1, KW: 1, Stride: 1, Weights: rats(1, 10), Bias: rats(0)}}, rats(1, 2, 3, 4), rats(31, 42)},
		"max":      {[]int{2, 1, 3}, []api.Layer{{Kind: api.LayerMaxPool, KH: 1, KW: 2, Stride: 1}}, rats(1, 5, 3, -2, -3, -4), rats(5, 5, -2, -3)},
		"average":  {[]int{2, 1, 3}, []api.Layer{{Kind: api.LayerAvgPool, KH: 1, KW: 2, Stride: 1}}, rats(1, 5, 3, -2, -3, -4), []api.Rat{rational.Of(3), rational.Of(4), frac(-5, 2), frac(-7, 2)}},
		"add":      {[]int{2}, []api.Layer{{Kind: api.LayerRelu}, {Kind: api.LayerAdd, From: -1}, {Kind: api.LayerAdd, From: 0}}, rats(-1, 2), rats(-1, 6)},
		"none":     {[]int{2}, nil, rats(-1, 2), rats(-1, 2)},
		"flatten":  {image, []api.Layer{{Kind: api.LayerFlatten}}, rats(1, 2, 3, 4, 5, 6), rats(1, 2, 3, 4, 5, 6)},
	} {
		m := api.Model{Input: c.input, Layers: c.l}
		y, e := Run(m, c.x)
		if e != api.OK || !same(y, c.want) {
			t.Error(name, y, e)
		}
		trace, e := Trace(m, c.x)
		if e != api.OK || len(trace) != len(c.l) || len(trace) > 0 && !same(trace[len(trace)-1], c.want) {
			t.Error(name, "trace", e)
		}
		for i := range y {
			if len(y[i].Num) > 0 {
				y[i].Num[0] = 77
			}
		}
		if again, _ := Run(m, c.x); !same(again, c.want) {
			t.Error(name, "shared memory")
		}
	}
}

func TestErrors(t *testing.T) {
	relu := api.Layer{Kind: api.LayerRelu}
	for _, c := range []struct {
		m api.Model
		x []api.Rat
		e api.Errno
	}{
		{api.Model{}, nil, api.ErrArg}, {api.Model{Input: []int{2}, Layers: []api.Layer{relu, {Kind: api.LayerMaxPool, KH: 1, KW: 1, Stride: 1}}}, nil, api.ErrShape},
		{api.Model{Input: []int{2}, Layers: []api.Layer{relu}}, rats(1), api.ErrMismatch}, {api.Model{Input: []int{2}}, rats(1, 2, 3), api.ErrMismatch},
	} {
		y, e := Run(c.m, c.x)
		trace, f := Trace(c.m, c.x)
		if e != c.e || f != c.e || len(y)+len(trace) != 0 {
			t.Error(c.m, e, f)
		}
	}
}

func random(r *rand.Rand, n int) []api.Rat {
	var l []api.Rat
	for range n {
		l = append(l, frac(r.Intn(21)-10, 1+r.Intn(4)))
	}
	return l
}

func run(t *testing.T, x []api.Rat, input []int, l ...api.Layer) []api.Rat {
	t.Helper()
	y, e := Run(api.Model{Input: input, Layers: l}, x)
	if e != api.OK {
		t.Fatal(e)
	}
	return y
}

func TestLaws(t *testing.T) {
	r := rand.New(rand.NewSource(1))
	in := []int{2, 3, 3}
	for range 50 {
		x, y, half := random(r, 18), random(r, 18), frac(1, 2)
		linear := []api.Layer{{Kind: api.LayerConv, Out: 2, KH: 2, KW: 2, Stride: 1, Pad: 1, Weights: random(r, 16), Bias: random(r, 2)}, {Kind: api.LayerAvgPool, KH: 2, KW: 2, Stride: 2}, {Kind: api.LayerFlatten}, {Kind: api.LayerDense, Out: 2, Weights: random(r, 16), Bias: random(r, 2)}, {Kind: api.LayerAdd, From: 3}}
		var mid, want []api.Rat
		for i := range x {
			mid = append(mid, rational.Mul(half, rational.Add(x[i], y[i])))
		}
		fx, fy := run(t, x, in, linear...), run(t, y, in, linear...)
		for i := range fx {
			want = append(want, rational.Mul(half, rational.Add(fx[i], fy[i])))
		}
		if !same(run(t, mid, in, linear...), want) {
			t.Fatal("affine")
		}
		relu, pool := api.Layer{Kind: api.LayerRelu}, api.Layer{Kind: api.LayerMaxPool, KH: 2, KW: 2, Stride: 1}
		if !same(run(t, x, in, relu), run(t, x, in, relu, relu)) || !same(run(t, x, in, relu, pool), run(t, x, in, pool, relu)) {
			t.Fatal("rectifier")
		}
		average := api.Layer{Kind: api.LayerAvgPool, KH: 2, KW: 2, Stride: 1}
		quarters := slices.Repeat([]api.Rat{frac(1, 4)}, 4)
		zeros := make([]api.Rat, 4)
		same4 := api.Layer{Kind: api.LayerConv, Out: 2, KH: 2, KW: 2, Stride: 1, Weights: slices.Concat(quarters, zeros, zeros, quarters), Bias: make([]api.Rat, 2)}
		if !same(run(t, x, in, average), run(t, x, in, same4)) {
			t.Fatal("average")
		}
	}
}

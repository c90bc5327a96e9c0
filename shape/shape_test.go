package shape

import (
	"slices"
	"testing"

	"relucert/api"
	"relucert/rational"
	"relucert/tensor"
)

func ones(n int) []api.Rat { return slices.Repeat([]api.Rat{rational.Of(1)}, n) }

func dense(out, in int) api.Layer {
	return api.Layer{Kind: api.LayerDense, Out: out, Weights: ones(out * in), Bias: ones(out)}
}

func conv(out, in, kh, kw, stride, pad int) api.Layer {
	return api.Layer{Kind: api.LayerConv, Out: out, KH: kh, KW: kw, Stride: stride, Pad: pad, Weights: ones(out * in * kh * kw), Bias: ones(out)}
}

func pool(kind, k, stride int) api.Layer { return api.Layer{Kind: kind, KH: k, KW: k, Stride: stride} }

func TestOut(t *testing.T) {
	relu, flat := api.Layer{Kind: api.LayerRelu}, api.Layer{Kind: api.LayerFlatten}
	image := []int{1, 4, 4}
	for _, c := range []struct {
		input  []int
		shapes [][]int
		l      api.Layer
		want   []int
		e      api.Errno
	}{
		{image, nil, conv(2, 1, 3, 3, 1, 1), []int{2, 4, 4}, api.OK}, {image, [][]int{{2, 4, 4}}, pool(api.LayerMaxPool, 2, 2), []int{2, 2, 2}, api.OK},
		{image, [][]int{{2, 4, 4}, {2, 2, 2}}, dense(3, 8), []int{3}, api.OK}, {image, [][]int{{2, 4, 4}, {2, 2, 2}}, dense(3, 7), nil, api.ErrShape},
		{image, nil, conv(2, 2, 3, 3, 1, 1), nil, api.ErrShape}, {image, nil, conv(1, 1, 5, 5, 1, 0), nil, api.ErrShape}, {[]int{16}, nil, conv(1, 1, 1, 1, 1, 0), nil, api.ErrShape},
		{[]int{16}, nil, pool(api.LayerAvgPool, 1, 1), nil, api.ErrShape}, {image, nil, pool(api.LayerAvgPool, 3, 1), []int{1, 2, 2}, api.OK}, {image, nil, pool(api.LayerAvgPool, 5, 1), nil, api.ErrShape},
		{image, nil, relu, image, api.OK}, {image, nil, flat, []int{16}, api.OK}, {image, nil, api.Layer{Kind: api.LayerAdd, From: -1}, image, api.OK},
		{image, [][]int{{16}}, api.Layer{Kind: api.LayerAdd, From: -1}, nil, api.ErrShape}, {image, [][]int{{16}, {2}, {16}}, api.Layer{Kind: api.LayerAdd, From: 0}, []int{16}, api.OK},
		{image, [][]int{{16}}, api.Layer{Kind: api.LayerAdd, From: 1}, nil, api.ErrArg}, {nil, nil, relu, nil, api.ErrArg}, {image, [][]int{{0}}, relu, nil, api.ErrArg},
		{image, nil, api.Layer{Kind: api.LayerRelu, Out: 1}, nil, api.ErrArg}, {image, slices.Repeat([][]int{{1}}, 64), relu, nil, api.ErrArg}, {image, slices.Repeat([][]int{{1}}, 63), relu, []int{1}, api.OK},
		{[]int{1, 128, 128}, nil, conv(1, 1, 5, 5, 1, 2), nil, api.ErrShape}, {[]int{1, 128, 128}, nil, conv(2, 1, 1, 1, 1, 0), nil, api.ErrShape},
	} {
		out, e := Out(c.input, c.shapes, c.l)
		if e != c.e || !slices.Equal(out, c.want) {
			t.Error(c.input, c.shapes, c.l.Kind, out, e)
		}
	}
}

func TestOf(t *testing.T) {
	m := api.Model{Input: []int{1, 4, 4}, Layers: []api.Layer{
		conv(2, 1, 3, 3, 1, 1), {Kind: api.LayerRelu}, {Kind: api.LayerAdd, From: 0}, pool(api.LayerMaxPool, 2, 2), {Kind: api.LayerFlatten}, dense(3, 8),
	}}
	want := [][]int{{2, 4, 4}, {2, 4, 4}, {2, 4, 4}, {2, 2, 2}, {8}, {3}}
	for n := range len(m.Layers) + 1 {
		prefix := api.Model{Input: m.Input, Layers: m.Layers[:n]}
		shapes, i, e := Of(prefix)
		if e != api.OK || i != 0 || !slices.EqualFunc(shapes, want[:n], slices.Equal) {
			t.Error(n, shapes, i, e)
		}
		for _, s := range shapes {
			if !tensor.Valid(s) {
				t.Error(s)
			}
			s[0] = 99
		}
	}
	if m.Input[0] != 1 {
		t.Error("shared memory")
	}
	m.Layers[3].Stride = 0
	if s, i, e := Of(m); e != api.ErrArg || i != 0 || len(s) != 0 {
		t.Error(s, i, e)
	}
	m.Layers[3].Stride = 1
	if s, i, e := Of(m); e != api.ErrShape || i != 5 || len(s) != 0 {
		t.Error(s, i, e)
	}
}

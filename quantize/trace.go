package quantize

import (
	"slices"

	"relucert/api"
	"relucert/fixed"
	"relucert/shape"
)

// Trace returns the integers of the outputs of all layers.
func Trace(m api.Model, p Plan, input []int64) ([][]int64, api.Errno) {
	if len(input) != len(p.In.Range) || len(p.Layers) != len(m.Layers) {
		return nil, api.ErrMismatch
	}
	shapes, _, e := shape.Of(m)
	if e != api.OK {
		return nil, e
	}
	var out [][]int64
	x, shift, at := input, p.In.Shift, m.Input
	for i, l := range m.Layers {
		r := runner{layer: l, step: p.Layers[i], bits: p.Bits, shift: shift, x: x}
		switch l.Kind {
		case api.LayerDense, api.LayerConv, api.LayerMaxPool, api.LayerAvgPool:
			r.windows = fan(l, at)
		case api.LayerAdd:
			r.other, r.otherShift = input, p.In.Shift
			if l.From >= 0 {
				r.other, r.otherShift = out[l.From], p.Layers[l.From].Shift
			}
		}
		x = r.run()
		out = append(out, x)
		shift, at = p.Layers[i].Shift, shapes[i]
	}
	return out, api.OK
}

// runner computes the integers of the output of a layer from those of its input at a shift.
type runner struct {
	layer      api.Layer
	step       Step
	bits       int
	shift      int
	x          []int64
	windows    [][]int
	other      []int64
	otherShift int
}

func (r runner) run() []int64 {
	table := [...]func() []int64{
		api.LayerDense: r.weighted, api.LayerConv: r.weighted, api.LayerMaxPool: r.greatest, api.LayerAvgPool: r.average,
		api.LayerRelu: r.relu, api.LayerFlatten: r.same, api.LayerAdd: r.add,
	}
	return table[r.layer.Kind]()
}

// divided returns a number times mul divided by a power of two, rounded.
func divided(a, mul int64, shift int) int64 {
	n, _ := fixed.Scale(a, mul, shift)
	return n
}

// read returns the integers of a window; padding is 0.
func (r runner) read(window []int) []int64 {
	out := make([]int64, len(window))
	for k, i := range window {
		if i >= 0 {
			out[k] = r.x[i]
		}
	}
	return out
}

func (r runner) weighted() []int64 {
	n := len(r.step.Weights) / r.layer.Out
	out := make([]int64, 0, r.layer.Out*len(r.windows))
	for o := range r.layer.Out {
		weights := r.step.Weights[o*n : (o+1)*n]
		for _, w := range r.windows {
			sum, _ := fixed.Dot(weights, r.read(w), r.step.Bias[o])
			out = append(out, fixed.Saturate(divided(sum, 1, r.shift+r.bits-r.step.Shift), valueBits))
		}
	}
	return out
}

func (r runner) greatest() []int64 {
	var out []int64
	for _, w := range r.windows {
		out = append(out, slices.Max(r.read(w)))
	}
	return out
}

func (r runner) average() []int64 {
	var out []int64
	for _, w := range r.windows {
		sum := int64(0)
		for _, x := range r.read(w) {
			sum += x
		}
		out = append(out, fixed.Saturate(divided(sum, r.step.Mul, poolShift+r.shift-r.step.Shift), valueBits))
	}
	return out
}

func (r runner) relu() []int64 {
	out := make([]int64, len(r.x))
	for i, x := range r.x {
		out[i] = max(0, x)
	}
	return out
}

func (r runner) same() []int64 { return slices.Clone(r.x) }

func (r runner) add() []int64 {
	out := make([]int64, len(r.x))
	for i, x := range r.x {
		a := divided(x, 1, r.shift-r.step.Shift)
		b := divided(r.other[i], 1, r.otherShift-r.step.Shift)
		out[i] = fixed.Saturate(a+b, valueBits)
	}
	return out
}

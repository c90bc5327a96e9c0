package compile

import (
	"math/rand"
	"slices"
	"testing"

	"relucert/api"
	"relucert/evaluate"
	"relucert/kernel"
	"relucert/quantize"
	"relucert/rational"
	"relucert/testkit"
)

var (
	frac = testkit.Frac
	rats = testkit.Rats
)

func box(n, lo, hi int) api.Region {
	return api.Region{Lo: slices.Repeat(rats(lo), n), Hi: slices.Repeat(rats(hi), n)}
}

func equal(a, b []api.Rat) bool {
	return slices.EqualFunc(a, b, func(x, y api.Rat) bool { return rational.Valid(x) && rational.Cmp(x, y) == 0 })
}

func TestExample(t *testing.T) {
	m := api.Model{Input: []int{2}, Layers: []api.Layer{{Kind: api.LayerDense, Out: 1, Weights: []api.Rat{frac(1, 2), rational.Of(1)}, Bias: rats(0)}}}
	k, e := Compile(m, box(2, 0, 1), 1)
	if e != api.OK || !kernel.Valid(k) || k.InShift != 1 || k.OutShift != 1 || !equal(k.Err, []api.Rat{frac(5, 8)}) || !equal(k.Lo, rats(0, 0)) || !equal(k.Hi, rats(1, 1)) {
		t.Fatal(k, e)
	}
	x := []api.Rat{frac(1, 2), rational.Of(1)}
	if in, e := Input(k, x); e != api.OK || !slices.Equal(in, []int64{1, 2}) {
		t.Error(in, e)
	}
	if y, e := Eval(k, x); e != api.OK || !equal(y, []api.Rat{frac(3, 2)}) {
		t.Error(y, e)
	}
	far := api.Rat{Neg: true, Num: api.Nat{0, 0, 0, 1}}
	if in, e := Input(k, []api.Rat{far, rational.Neg(far)}); e != api.OK || !slices.Equal(in, []int64{-1 << 31, 1<<31 - 1}) {
		t.Error(in, e)
	}
	none, e := Compile(api.Model{Input: []int{2}}, box(2, 0, 1), 3)
	if e != api.OK || none.Output != 0 || none.OutShift != 3 || !equal(none.Err, []api.Rat{frac(1, 16), frac(1, 16)}) {
		t.Error(none, e)
	}
	if y, e := Eval(none, []api.Rat{frac(1, 3), {}}); e != api.OK || !equal(y, []api.Rat{frac(3, 8), {}}) {
		t.Error(y, e)
	}
}

func TestErrors(t *testing.T) {
	m := api.Model{Input: []int{2}}
	for i, c := range []struct {
		m    api.Model
		r    api.Region
		bits int
		e    api.Errno
	}{{api.Model{}, box(2, 0, 1), 1, api.ErrArg}, {api.Model{Input: []int{2}, Layers: []api.Layer{{Kind: api.LayerMaxPool, KH: 1, KW: 1, Stride: 1}}}, box(2, 0, 1), 1, api.ErrShape}, {m, box(1, 0, 1), 1, api.ErrArg}, {m, box(2, 0, 1), 25, api.ErrArg}, {m, box(2, 0, 1<<31), 1, api.ErrLimit}} {
		if k, e := Compile(c.m, c.r, c.bits); e != c.e || len(k.Sizes) != 0 {
			t.Error(i, e)
		}
	}
	k, _ := Compile(m, box(2, 0, 1), 1)
	in, e := Input(k, rats(1))
	y, f := Output(k, []int64{1})
	z, g := Eval(k, rats(1))
	if e != api.ErrMismatch || f != api.ErrMismatch || g != api.ErrMismatch || len(in)+len(y)+len(z) != 0 {
		t.Error(e, f, g)
	}
	k.Sizes[0] = 0
	in, e = Input(k, nil)
	y, f = Output(k, nil)
	z, g = Eval(k, nil)
	if e != api.ErrArg || f != api.ErrArg || g != api.ErrArg || len(in)+len(y)+len(z) != 0 {
		t.Error(e, f, g)
	}
}

func weights(r *rand.Rand, n int) []api.Rat {
	var l []api.Rat
	for range n {
		l = append(l, frac(r.Intn(41)-20, 1+r.Intn(7)))
	}
	return l
}

// TestImplements compares kernels with traces of plans, for all integers of 32 bits, and with exact outputs.
func TestImplements(t *testing.T) {
	r := rand.New(rand.NewSource(1))
	for range 40 {
		big := []api.Rat{rational.Of(1 << (r.Intn(20)))}
		m := api.Model{Input: []int{2, 3, 3}, Layers: []api.Layer{
			{Kind: api.LayerConv, Out: 2, KH: 2, KW: 2, Stride: 1, Pad: 1, Weights: weights(r, 16), Bias: weights(r, 2)}, {Kind: api.LayerRelu},
			{Kind: api.LayerMaxPool, KH: 2, KW: 2, Stride: 1}, {Kind: api.LayerAdd, From: -1}, {Kind: api.LayerAvgPool, KH: 2, KW: 2, Stride: 1},
			{Kind: api.LayerFlatten}, {Kind: api.LayerDense, Out: 3, Weights: weights(r, 24), Bias: weights(r, 3)}, {Kind: api.LayerRelu}, {Kind: api.LayerAdd, From: 6}, {Kind: api.LayerAdd, From: 8},
			{Kind: api.LayerDense, Out: 1, Weights: slices.Repeat(big, 3), Bias: rats(0)}, {Kind: api.LayerDense, Out: 3, Weights: slices.Repeat([]api.Rat{frac(1, 1<<10)}, 3), Bias: rats(0, 1, 2)}, {Kind: api.LayerAdd, From: 7},
		}}
		m.Layers = m.Layers[:1+r.Intn(len(m.Layers))]
		reg := box(18, -1, 2)
		bits := 1 + r.Intn(20)
		p, e := quantize.Make(m, reg, bits)
		k, f := Compile(m, reg, bits)
		if e != f {
			t.Fatal(e, f)
		}
		if e != api.OK {
			continue
		}
		if !kernel.Valid(k) || len(k.Ops) > 4*len(m.Layers) {
			t.Fatal("kernel")
		}
		for range 5 {
			var in []int64
			for range 18 {
				in = append(in, int64(int32(r.Uint32()))>>r.Intn(32))
			}
			want, _ := quantize.Trace(m, p, in)
			got, e := kernel.Run(k, in)
			tiled, f := kernel.Tiled(k, in, 1+r.Intn(3), 1+r.Intn(3))
			if last := want[len(want)-1]; e != api.OK || f != api.OK || !slices.Equal(got, last) || !slices.Equal(tiled, last) {
				t.Fatal("trace", got, want[len(want)-1])
			}
			var x []api.Rat
			for range 18 {
				x = append(x, frac(r.Intn(301)-100, 100))
			}
			y, _ := Eval(k, x)
			exact, _ := evaluate.Run(m, x)
			for i := range y {
				d := rational.Sub(y[i], exact[i])
				d.Neg = false
				if rational.Cmp(d, k.Err[i]) > 0 {
					t.Fatal("error", i)
				}
			}
		}
	}
}

package quantize

import (
	"math"
	"math/rand"
	"slices"
	"testing"

	"relucert/api"
	"relucert/evaluate"
	"relucert/fixed"
	"relucert/interval"
	"relucert/rational"
	"relucert/testkit"
)

var (
	frac = testkit.Frac
	rats = testkit.Rats
)

func box(n, lo, hi int) api.Region {
	return api.Region{Lo: slices.Repeat(rats(lo), n), Hi: slices.Repeat(rats(hi), n)}
}

func example() api.Model {
	return api.Model{Input: []int{2}, Layers: []api.Layer{{Kind: api.LayerDense, Out: 1, Weights: []api.Rat{frac(1, 2), rational.Of(1)}, Bias: rats(0)}}}
}

func TestExample(t *testing.T) {
	p, e := Make(example(), box(2, 0, 1), 1)
	if e != api.OK || p.Bits != 1 || p.In.Shift != 1 || len(p.Layers) != 1 {
		t.Fatal(p, e)
	}
	s := p.Layers[0]
	if rational.Cmp(p.In.Err[1], frac(1, 4)) != 0 || rational.Cmp(s.Range[0].Hi, frac(3, 2)) != 0 || rational.Sign(s.Range[0].Lo) != 0 || s.Shift != 1 || !slices.Equal(s.Weights, []int64{1, 2}) || !slices.Equal(s.Bias, []int64{0}) || rational.Cmp(s.Err[0], frac(5, 8)) != 0 || s.Mul != 0 {
		t.Error(s)
	}
	if out, e := Trace(example(), p, []int64{1, 2}); e != api.OK || len(out) != 1 || !slices.Equal(out[0], []int64{3}) {
		t.Error(out, e)
	}
	huge := api.Rat{Neg: true, Num: api.Nat{0, 0, 0, 1}}
	if in, e := Input(p, []api.Rat{frac(1, 2), huge}); e != api.OK || !slices.Equal(in, []int64{1, -1 << 31}) {
		t.Error(in, e)
	}
	if in, e := Input(p, []api.Rat{rational.Neg(huge), rational.Of(1 << 40)}); e != api.OK || !slices.Equal(in, []int64{1<<31 - 1, 1<<31 - 1}) {
		t.Error(in, e)
	}
	if in, e := Input(p, rats(1)); e != api.ErrMismatch || len(in) != 0 {
		t.Error(e)
	}
	if out, e := Trace(example(), p, []int64{1}); e != api.ErrMismatch || len(out) != 0 {
		t.Error(e)
	}
}

func TestErrors(t *testing.T) {
	narrow := example()
	narrow.Layers = append(narrow.Layers, narrow.Layers[0])
	for i, c := range []struct {
		m    api.Model
		r    api.Region
		bits int
		e    api.Errno
		only api.Errno // of Magnitudes
	}{
		{api.Model{}, box(2, 0, 1), 1, api.ErrArg, api.ErrArg}, {narrow, box(2, 0, 1), 0, api.ErrShape, api.ErrShape}, {example(), box(1, 0, 1), 1, api.ErrArg, api.ErrArg}, {example(), box(2, 1, 0), 1, api.ErrArg, api.ErrArg}, {example(), box(2, 0, 1), 0, api.ErrArg, api.OK}, {example(), box(2, 0, 1), 25, api.ErrArg, api.OK},
		{example(), box(2, 0, 1<<31), 1, api.ErrLimit, api.OK}, {example(), box(2, 0, 1<<30), 1, api.ErrLimit, api.OK}, {example(), box(2, 0, 1<<29), 1, api.OK, api.OK}, {example(), box(2, 0, 1), 24, api.OK, api.OK},
	} {
		p, e := Make(c.m, c.r, c.bits)
		l, f := Magnitudes(c.m, c.r)
		if e != c.e || f != c.only || e != api.OK && (p.Bits != 0 || len(p.In.Range)+len(p.Layers) > 0) || f != api.OK && len(l) > 0 {
			t.Error(i, e, f)
		}
	}
	// The sums of many great weights, and a weight that cannot be rounded.
	wide := api.Model{Input: []int{256}, Layers: []api.Layer{{Kind: api.LayerDense, Out: 1, Weights: slices.Repeat(rats(1<<12), 256), Bias: rats(0)}}}
	small := box(256, 0, 0)
	if _, e := Make(wide, small, 11); e != api.OK {
		t.Error("sum 2^62", e)
	}
	wide.Layers[0].Bias = []api.Rat{frac(1, 1<<30)}
	if _, e := Make(wide, small, 11); e != api.OK {
		t.Error("bias rounded to 0", e)
	}
	wide.Layers[0].Bias = []api.Rat{frac(1, 1<<20)}
	if _, e := Make(wide, small, 11); e != api.ErrLimit {
		t.Error("sum above 2^62", e)
	}
	one := api.Model{Input: []int{1}, Layers: []api.Layer{{Kind: api.LayerDense, Out: 1, Weights: rats(1 << 50), Bias: rats(0)}}}
	if _, e := Make(one, box(1, 0, 0), 24); e != api.ErrLimit {
		t.Error("weight", e)
	}
}

// TestShiftsAndErrors compares the plan of all kinds of layers with figures.
func TestShiftsAndErrors(t *testing.T) {
	m := api.Model{Input: []int{1, 1, 3}, Layers: []api.Layer{
		{Kind: api.LayerAvgPool, KH: 1, KW: 3, Stride: 1}, {Kind: api.LayerRelu}, {Kind: api.LayerFlatten}, {Kind: api.LayerDense, Out: 1, Weights: rats(1 << 20), Bias: rats(0)}, {Kind: api.LayerAdd, From: 2}, {Kind: api.LayerAdd, From: 3},
	}}
	p, e := Make(m, box(3, 0, 1<<8), 10)
	if e != api.OK || p.Layers[0].Mul != 357913941 || p.Layers[0].Shift != 10 || p.Layers[3].Shift != 2 || p.Layers[4].Shift != 1 || p.Layers[5].Shift != 0 {
		t.Fatal(p.Layers[0].Mul, p.Layers[0].Shift, p.Layers[3].Shift, p.Layers[4].Shift, p.Layers[5].Shift, e)
	}
	h := func(s int) api.Rat { x, _ := fixed.Error(s); return x }
	off, _ := fixed.Rat(357913941, 30)
	third := rational.Sub(frac(1, 3), off)
	want := rational.Add(rational.Add(rational.Mul(off, rational.Mul(rational.Of(3), h(10))), rational.Mul(third, rational.Of(3<<8))), h(10))
	if rational.Cmp(p.Layers[0].Err[0], want) != 0 || rational.Cmp(p.Layers[2].Err[0], want) != 0 {
		t.Error("average", p.Layers[0].Err)
	}
	dense := rational.Add(rational.Mul(rational.Of(1<<20), want), h(2))
	sum := rational.Add(rational.Add(dense, want), rational.Add(h(1), h(1)))
	last := rational.Add(rational.Add(sum, dense), rational.Add(h(0), h(0)))
	if rational.Cmp(p.Layers[3].Err[0], dense) != 0 || rational.Cmp(p.Layers[4].Err[0], sum) != 0 || rational.Cmp(p.Layers[5].Err[0], last) != 0 {
		t.Error("dense and add", p.Layers[3].Err, p.Layers[4].Err, p.Layers[5].Err)
	}
}

func weights(r *rand.Rand, n int) []api.Rat {
	var l []api.Rat
	for range n {
		l = append(l, frac(r.Intn(41)-20, 1+r.Intn(7)))
	}
	return l
}

func random(r *rand.Rand) api.Model {
	return api.Model{Input: []int{2, 3, 3}, Layers: []api.Layer{
		{Kind: api.LayerConv, Out: 2, KH: 2, KW: 2, Stride: 1, Pad: 1, Weights: weights(r, 16), Bias: weights(r, 2)}, {Kind: api.LayerRelu},
		{Kind: api.LayerMaxPool, KH: 2, KW: 2, Stride: 1}, {Kind: api.LayerAdd, From: -1}, {Kind: api.LayerAvgPool, KH: 2, KW: 2, Stride: 1},
		{Kind: api.LayerFlatten}, {Kind: api.LayerDense, Out: 3, Weights: weights(r, 24), Bias: weights(r, 3)}, {Kind: api.LayerRelu}, {Kind: api.LayerAdd, From: 6},
	}}
}

// TestConsequences compares integers with exact outputs at inputs of the box.
func TestConsequences(t *testing.T) {
	r := rand.New(rand.NewSource(1))
	for range 40 {
		m, reg := random(r), box(18, -1, 2)
		bits := 1 + r.Intn(20)
		p, e := Make(m, reg, bits)
		if e != api.OK {
			t.Fatal(e)
		}
		all, _ := Magnitudes(m, reg)
		for range 5 {
			var x []api.Rat
			for range 18 {
				x = append(x, frac(r.Intn(301)-100, 100))
			}
			in, _ := Input(p, x)
			got, e := Trace(m, p, in)
			want, _ := evaluate.Trace(m, x)
			if e != api.OK || len(got) != len(want) {
				t.Fatal(e)
			}
			for i := range want {
				for k, v := range want[i] {
					n, _ := fixed.Rat(got[i][k], p.Layers[i].Shift)
					d := rational.Sub(n, v)
					d.Neg = false
					if !interval.Contains(all[i][k], v) || rational.Cmp(d, p.Layers[i].Err[k]) > 0 {
						t.Fatal("error", i, k, bits)
					}
				}
			}
		}
		var wild []int64
		for range 18 {
			wild = append(wild, int64(int32(r.Uint32())))
		}
		wild[0], wild[1] = math.MinInt32, math.MaxInt32
		got, _ := Trace(m, p, wild)
		for _, l := range got {
			if slices.Min(l) < math.MinInt32 || slices.Max(l) > math.MaxInt32 {
				t.Fatal("32 bits")
			}
		}
	}
}

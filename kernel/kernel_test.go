package kernel

import (
	"math"
	"math/rand"
	"slices"
	"testing"

	"relucert/api"
	"relucert/rational"
)

func base(sizes []int, output int, ops ...api.Op) api.Kernel {
	return api.Kernel{Sizes: sizes, Ops: ops, Output: output, Lo: make([]api.Rat, sizes[0]), Hi: make([]api.Rat, sizes[0]), Err: make([]api.Rat, sizes[output])}
}

func example() api.Kernel {
	return base([]int{2, 2, 2}, 2, api.Op{Kind: api.OpGemm, Dst: 1, Cols: 1, Inner: 2, Weights: []int64{1, 2, 3, 4}, Bias: []int64{5, 6}}, api.Op{Kind: api.OpScale, Src: 1, Dst: 2, Mul: 1, Shift: 1})
}

func TestExample(t *testing.T) {
	b, e := Buffers(example(), []int64{1, -1})
	if e != api.OK || len(b) != 3 || !slices.Equal(b[0], []int64{1, -1}) || !slices.Equal(b[1], []int64{4, 5}) || !slices.Equal(b[2], []int64{2, 3}) {
		t.Error(b, e)
	}
	if out, e := Run(example(), []int64{1, -1}); e != api.OK || !slices.Equal(out, []int64{2, 3}) {
		t.Error(out, e)
	}
}

func TestOperations(t *testing.T) {
	for i, c := range []struct {
		sizes []int
		op    api.Op
		in    []int64
		want  []int64
	}{
		{[]int{2, 4}, api.Op{Kind: api.OpGather, Dst: 1, Index: []int{1, -1, 0, 1}}, []int64{7, 8}, []int64{8, 0, 7, 8}}, {[]int{3, 3}, api.Op{Kind: api.OpRelu, Dst: 1}, []int64{-1, 0, 5}, []int64{0, 0, 5}}, {[]int{4, 2}, api.Op{Kind: api.OpMax, Dst: 1, Inner: 2}, []int64{-3, -4, 1, 9}, []int64{-3, 9}},
		{[]int{4, 2}, api.Op{Kind: api.OpSum, Dst: 1, Inner: 2}, []int64{-3, -4, 1, 9}, []int64{-7, 10}}, {[]int{2, 2}, api.Op{Kind: api.OpAdd, Dst: 1}, []int64{3, math.MaxInt64}, []int64{6, -2}}, {[]int{2, 2}, api.Op{Kind: api.OpScale, Dst: 1, Mul: -3, Shift: 1}, []int64{1, 3}, []int64{-2, -5}},
		{[]int{2, 2}, api.Op{Kind: api.OpScale, Dst: 1, Mul: 1 << 40}, []int64{math.MaxInt64, -1 << 40}, []int64{1<<31 - 1, -1 << 31}}, {[]int{2, 2}, api.Op{Kind: api.OpScale, Dst: 1, Mul: -1 << 40}, []int64{math.MaxInt64, -1 << 40}, []int64{-1 << 31, 1<<31 - 1}}, {[]int{1, 1}, api.Op{Kind: api.OpScale, Dst: 1}, []int64{5}, []int64{0}},
		{[]int{4, 2}, api.Op{Kind: api.OpGemm, Dst: 1, Cols: 2, Inner: 2, Weights: []int64{1, 10}, Bias: []int64{100}}, []int64{1, 2, 3, 4}, []int64{131, 142}}, {[]int{1, 1}, api.Op{Kind: api.OpGemm, Dst: 1, Cols: 1, Inner: 1, Weights: []int64{2}, Bias: []int64{1}}, []int64{math.MaxInt64}, []int64{-1}},
	} {
		k := base(c.sizes, 1, c.op)
		if out, e := Run(k, c.in); e != api.OK || !slices.Equal(out, c.want) {
			t.Error(i, out, e)
		}
	}
}

func TestValid(t *testing.T) {
	if !Valid(example()) || !Valid(base([]int{1}, 0)) || Valid(api.Kernel{}) {
		t.Error("valid")
	}
	for i, change := range []func(k *api.Kernel){
		func(k *api.Kernel) { k.Sizes[1] = 0 }, func(k *api.Kernel) { k.Sizes[1] = 1<<18 + 1 }, func(k *api.Kernel) { k.Sizes = make([]int, 1025) }, func(k *api.Kernel) { k.Ops = make([]api.Op, 1025) }, func(k *api.Kernel) { k.Ops[0].Dst = 0 }, func(k *api.Kernel) { k.Ops[0].Dst = 3 }, func(k *api.Kernel) { k.Ops[1].Dst = 1 },
		func(k *api.Kernel) { k.Ops[0].Src = 2 }, func(k *api.Kernel) { k.Ops[1].Src = 2 }, func(k *api.Kernel) { k.Ops[0].Src = -1 }, func(k *api.Kernel) { k.Output = 3 }, func(k *api.Kernel) { k.Output = -1 }, func(k *api.Kernel) { k.Sizes = append(k.Sizes, 2); k.Output = 3 }, func(k *api.Kernel) { k.Ops[0].Kind = 0 }, func(k *api.Kernel) { k.Ops[0].Kind = 8 },
		func(k *api.Kernel) { k.Ops[0].Cols = 2 }, func(k *api.Kernel) { k.Ops[0].Cols = 0 }, func(k *api.Kernel) { k.Ops[0].Inner = 1 }, func(k *api.Kernel) { k.Ops[0].Bias = nil }, func(k *api.Kernel) { k.Ops[0].Weights = nil }, func(k *api.Kernel) { k.Ops[0].Mul = 1 }, func(k *api.Kernel) { k.Ops[0].Other = 1 }, func(k *api.Kernel) { k.Ops[1].Other = 1 }, func(k *api.Kernel) { k.Ops[1].Shift = 63 }, func(k *api.Kernel) { k.Ops[1].Shift = -1 },
		func(k *api.Kernel) { k.Ops[1].Index = []int{1} }, func(k *api.Kernel) { k.Ops[1].Cols = 1 }, func(k *api.Kernel) { k.InShift = 63 }, func(k *api.Kernel) { k.OutShift = -1 }, func(k *api.Kernel) { k.Lo = nil }, func(k *api.Kernel) { k.Hi = k.Hi[:1] }, func(k *api.Kernel) { k.Lo[1] = rational.Of(1) }, func(k *api.Kernel) { k.Err = nil }, func(k *api.Kernel) { k.Err[0] = rational.Of(-1) }, func(k *api.Kernel) { k.Err[0].Neg = true }, func(k *api.Kernel) { k.Lo[0].Den = api.Nat{1} },
		func(k *api.Kernel) { k.Ops[0] = api.Op{Kind: api.OpGather, Dst: 1, Index: []int{0, 2}} }, func(k *api.Kernel) { k.Ops[0] = api.Op{Kind: api.OpGather, Dst: 1, Index: []int{0}} }, func(k *api.Kernel) { k.Ops[0] = api.Op{Kind: api.OpGather, Dst: 1, Index: []int{0, -2}} }, func(k *api.Kernel) { k.Ops[0] = api.Op{Kind: api.OpMax, Dst: 1, Inner: 2} },
		func(k *api.Kernel) { k.Ops[0] = api.Op{Kind: api.OpSum, Dst: 1} }, func(k *api.Kernel) { k.Ops[0] = api.Op{Kind: api.OpAdd, Dst: 1, Other: 2} }, func(k *api.Kernel) { k.Ops[0] = api.Op{Kind: api.OpAdd, Dst: 1, Other: -1} }, func(k *api.Kernel) { k.Ops[0] = api.Op{Kind: api.OpRelu, Dst: 1, Inner: 1} },
	} {
		k := example()
		change(&k)
		out, e := Run(k, []int64{1, 1})
		b, f := Buffers(k, []int64{1, 1})
		tiled, g := Tiled(k, []int64{1, 1}, 1, 1)
		if Valid(k) || e != api.ErrArg || f != api.ErrArg || g != api.ErrArg || len(out)+len(b)+len(tiled) != 0 {
			t.Error(i, e, f, g)
		}
	}
	if out, e := Run(example(), []int64{1}); e != api.ErrMismatch || len(out) != 0 {
		t.Error(e)
	}
	for _, s := range [][2]int{{0, 1}, {1, 0}, {-1, 1}} {
		if out, e := Tiled(example(), nil, s[0], s[1]); e != api.ErrArg || len(out) != 0 {
			t.Error(e)
		}
	}
	if out, e := Tiled(example(), nil, 1, 1); e != api.ErrMismatch || len(out) != 0 {
		t.Error(e)
	}
	unused := example()
	unused.Sizes = append(unused.Sizes, 3)
	if b, e := Buffers(unused, []int64{1, -1}); e != api.OK || !slices.Equal(b[3], []int64{0, 0, 0}) {
		t.Error(b, e)
	}
}

func TestTilesAndGathers(t *testing.T) {
	r := rand.New(rand.NewSource(1))
	for range 200 {
		rows, inner, cols := 1+r.Intn(5), 1+r.Intn(5), 1+r.Intn(5)
		words := func(n int) []int64 {
			var l []int64
			for range n {
				l = append(l, int64(r.Uint64()))
			}
			return l
		}
		k := base([]int{inner * cols, rows * cols}, 1, api.Op{Kind: api.OpGemm, Dst: 1, Cols: cols, Inner: inner, Weights: words(rows * inner), Bias: words(rows)})
		in := words(inner * cols)
		want, _ := Run(k, in)
		if got, e := Tiled(k, in, 1+r.Intn(6), 1+r.Intn(6)); e != api.OK || !slices.Equal(got, want) {
			t.Fatal("tiles", e)
		}
		a, b := make([]int, 5), make([]int, 4)
		for i := range a {
			a[i] = r.Intn(4) - 1
		}
		both := make([]int, 4)
		for i := range b {
			b[i] = r.Intn(6) - 1
			both[i] = -1
			if b[i] >= 0 {
				both[i] = a[b[i]]
			}
		}
		two := base([]int{3, 5, 4}, 2, api.Op{Kind: api.OpGather, Dst: 1, Index: a}, api.Op{Kind: api.OpGather, Src: 1, Dst: 2, Index: b})
		one := base([]int{3, 4}, 1, api.Op{Kind: api.OpGather, Dst: 1, Index: both})
		x := words(3)
		first, _ := Run(two, x)
		second, _ := Run(one, x)
		if !slices.Equal(first, second) {
			t.Fatal("gathers")
		}
	}
}

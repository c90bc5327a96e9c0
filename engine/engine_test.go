package engine

import (
	"math/rand"
	"slices"
	"testing"

	"relucert/api"
	"relucert/certfile"
	"relucert/claim"
	"relucert/compile"
	"relucert/evaluate"
	"relucert/kernel"
	"relucert/rational"
	"relucert/region"
	"relucert/testkit"
	"relucert/verify"
)

var (
	frac = testkit.Frac
	rats = testkit.Rats
)

func parse(s string) api.Claim {
	c, _, e := claim.Parse(s)
	if e != api.OK {
		panic(s)
	}
	return c
}

// sample has the outputs x and 1 - x.
func sample() api.Model {
	return api.Model{Input: []int{1}, Layers: []api.Layer{{Kind: api.LayerDense, Out: 2, Weights: rats(1, -1), Bias: rats(0, 1)}}}
}

func zone() api.Region { return api.Region{Lo: []api.Rat{frac(3, 4)}, Hi: rats(1)} }

func prove(t *testing.T, m api.Model, r api.Region, c api.Claim) api.Cert {
	t.Helper()
	g, _ := verify.Graph(m)
	v, e := verify.Verify(g, r, c, api.Options{Domain: 2, Learn: true, Nodes: 5000})
	if e != api.OK || v.Status != api.Proved {
		t.Fatal(v.Status, e)
	}
	v.Cert.Digest = certfile.Digest(g, r, c)
	return v.Cert
}

func start(t *testing.T) *Engine {
	t.Helper()
	c := parse("top 0 margin 1/2")
	e, errno := New(sample(), zone(), c, prove(t, sample(), zone(), c), 8)
	if errno != api.OK {
		t.Fatal(errno)
	}
	return e
}

func TestExample(t *testing.T) {
	e := start(t)
	if a := e.Direct([]api.Rat{frac(7, 8)}); a.Status != api.AnswerProved || a.Class != 0 || a.ID != 0 || !slices.Equal(a.Outputs, []int64{224, 32}) {
		t.Error(a)
	}
	for _, x := range []api.Rat{frac(1, 2), frac(9, 8)} {
		if a := e.Direct([]api.Rat{x}); a.Status != api.AnswerOutside || a.Class != 0 || len(a.Outputs) != 0 {
			t.Error(a)
		}
	}
	for _, x := range [][]api.Rat{nil, rats(1, 1), {{Num: api.Nat{2}, Den: api.Nat{2}}}} {
		if a := e.Direct(x); a.Status != api.AnswerInvalid || len(a.Outputs) != 0 {
			t.Error(a)
		}
	}
	want, _ := compile.Compile(sample(), zone(), 8)
	k := e.Kernel()
	if !kernel.Valid(k) || len(k.Ops) != len(want.Ops) || k.InShift != want.InShift {
		t.Error(k)
	}
	k.Ops[0].Weights[0], k.Lo[0].Num[0] = 99, 99
	if a := e.Direct([]api.Rat{frac(7, 8)}); !slices.Equal(a.Outputs, []int64{224, 32}) || e.Kernel().Ops[0].Weights[0] == 99 {
		t.Error("shared memory")
	}
}

func TestNew(t *testing.T) {
	c := parse("top 0 margin 1/2")
	cert := prove(t, sample(), zone(), c)
	other := cert
	other.Digest[3] ^= 1
	broken := cert
	broken.Trees = []api.Node{{}}
	wide := sample()
	wide.Layers = append(wide.Layers, api.Layer{Kind: api.LayerMaxPool, KH: 1, KW: 1, Stride: 1})
	none := parse("top 0")
	for i, x := range []struct {
		m    api.Model
		r    api.Region
		c    api.Claim
		cert api.Cert
		bits int
		e    api.Errno
	}{
		{sample(), zone(), c, cert, 8, api.OK}, {sample(), zone(), c, cert, 1, api.ErrMargin}, {wide, zone(), c, cert, 8, api.ErrShape}, {api.Model{}, zone(), c, cert, 8, api.ErrArg}, {sample(), zone(), parse("top 2"), cert, 8, api.ErrArg}, {sample(), zone(), parse("y0 - y1 >= 1/2"), cert, 8, api.ErrArg},
		{sample(), api.Region{}, c, cert, 8, api.ErrArg}, {sample(), zone(), c, cert, 25, api.ErrArg}, {sample(), zone(), c, other, 8, api.ErrProof}, {sample(), zone(), c, broken, 8, api.ErrProof}, {sample(), zone(), parse("top 0 margin 1/3"), cert, 8, api.ErrProof}, {sample(), zone(), none, prove(t, sample(), zone(), none), 8, api.ErrMargin},
	} {
		e, errno := New(x.m, x.r, x.c, x.cert, x.bits)
		if errno != x.e || (e == nil) != (errno != api.OK) {
			t.Error(i, errno)
		}
	}
}

func TestQueue(t *testing.T) {
	e := start(t)
	x := []api.Rat{frac(7, 8)}
	for i := range 64 {
		in := x
		if i == 1 {
			in = nil
		}
		if id, errno := e.Submit(in); id != i+1 || errno != api.OK || e.Waiting() != i+1 {
			t.Fatal(id, errno)
		}
	}
	if id, errno := e.Submit(x); id != 0 || errno != api.ErrLimit {
		t.Error(id, errno)
	}
	x[0].Num[0] = 1
	if len(e.Run(0)) != 0 || len(e.Run(-3)) != 0 {
		t.Error("none")
	}
	a := e.Run(3)
	if len(a) != 3 || e.Waiting() != 61 || a[0].ID != 1 || a[1].ID != 2 || a[0].Status != api.AnswerProved || a[1].Status != api.AnswerInvalid || !slices.Equal(a[2].Outputs, []int64{224, 32}) {
		t.Error(a)
	}
	if id, errno := e.Submit(rats(0)); id != 65 || errno != api.OK {
		t.Error(id, errno)
	}
	a = e.Run(1000)
	if len(a) != 62 || e.Waiting() != 0 || a[61].ID != 65 || a[61].Status != api.AnswerOutside {
		t.Error(len(a))
	}
	var none *Engine
	id, errno := none.Submit(x)
	if id != 0 || errno != api.ErrState || none.Waiting() != 0 || len(none.Run(5)) != 0 || none.Direct(x).Status != api.AnswerInvalid || len(none.Kernel().Sizes) != 0 {
		t.Error("nil")
	}
}

// TestRandom starts engines for random models and asks for inputs of the region.
func TestRandom(t *testing.T) {
	r := rand.New(rand.NewSource(1))
	weights := func(n int) []api.Rat {
		var l []api.Rat
		for range n {
			l = append(l, frac(r.Intn(21)-10, 1+r.Intn(5)))
		}
		return l
	}
	started := 0
	for range 60 {
		m := api.Model{Input: []int{2}, Layers: []api.Layer{{Kind: api.LayerDense, Out: 3, Weights: weights(6), Bias: weights(3)}, {Kind: api.LayerRelu}, {Kind: api.LayerDense, Out: 3, Weights: weights(9), Bias: weights(3)}}}
		reg := api.Region{Lo: rats(-1, 0), Hi: rats(1, 1)}
		g, _ := verify.Graph(m)
		for target := range 3 {
			margin, e := verify.Margin(g, reg, target, api.Options{Nodes: 1000})
			if e != api.OK || rational.Sign(margin) <= 0 {
				continue
			}
			c := api.Claim{Kind: api.ClaimTop, Target: target, Margin: margin}
			eng, e := New(m, reg, c, prove(t, m, reg, c), 16)
			if e != api.OK {
				t.Fatal(e)
			}
			started++
			for range 20 {
				x := []api.Rat{frac(r.Intn(401)-200, 150), frac(r.Intn(301)-100, 150)}
				a := eng.Direct(x)
				if region.Contains(reg, x) != (a.Status == api.AnswerProved) || a.Status == api.AnswerProved && a.Class != target {
					t.Fatal(a)
				}
				if a.Status != api.AnswerProved {
					continue
				}
				y, _ := evaluate.Run(m, x)
				for j := range y {
					if j != target && (a.Outputs[j] >= a.Outputs[target] || rational.Cmp(rational.Sub(y[target], y[j]), margin) < 0) {
						t.Fatal("greatest", a, y)
					}
				}
			}
		}
	}
	if started < 5 {
		t.Error(started)
	}
}

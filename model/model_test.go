package model

import (
	"bytes"
	"testing"

	"relucert/api"
	"relucert/digest"
	"relucert/natural"
	"relucert/rational"
	"relucert/testkit"
)

var rats = testkit.Rats

func sample() api.Model {
	half, _ := rational.Frac(-1, 2)
	return api.Model{Input: []int{1, 2, 2}, Layers: []api.Layer{
		{Kind: api.LayerConv, Out: 1, KH: 2, KW: 2, Stride: 1, Pad: 1, Weights: rats(1, -2, 3, 4), Bias: []api.Rat{half}},
		{Kind: api.LayerRelu}, {Kind: api.LayerAdd, From: 0}, {Kind: api.LayerMaxPool, KH: 2, KW: 2, Stride: 1}, {Kind: api.LayerAvgPool, KH: 1, KW: 2, Stride: 1},
		{Kind: api.LayerFlatten}, {Kind: api.LayerDense, Out: 2, Weights: rats(1, 2, 3, 4), Bias: rats(0, 7)},
	}}
}

func seal(body []byte) []byte {
	b := append([]byte("RLUM"), body...)
	sum := digest.Sum(b)
	return append(b, sum[:]...)
}

func TestValid(t *testing.T) {
	if !Valid(sample()) || Valid(api.Model{}) || !Valid(api.Model{Input: []int{1}}) {
		t.Error("valid")
	}
	big := make([]api.Rat, api.MaxElems+1)
	for name, c := range map[string]struct {
		l  api.Layer
		ok bool
	}{
		"kind 0":      {api.Layer{}, false},
		"kind 8":      {api.Layer{Kind: 8}, false},
		"relu out":    {api.Layer{Kind: api.LayerRelu, Out: 1}, false},
		"relu from":   {api.Layer{Kind: api.LayerRelu, From: 1}, false},
		"add self":    {api.Layer{Kind: api.LayerAdd, From: 0}, false},
		"add input":   {api.Layer{Kind: api.LayerAdd, From: -1}, true},
		"add -2":      {api.Layer{Kind: api.LayerAdd, From: -2}, false},
		"dense":       {api.Layer{Kind: api.LayerDense, Out: 2, Weights: rats(1, 2), Bias: rats(0, 0)}, true},
		"no weights":  {api.Layer{Kind: api.LayerDense, Out: 1, Bias: rats(0)}, false},
		"odd weights": {api.Layer{Kind: api.LayerDense, Out: 2, Weights: rats(1, 2, 3), Bias: rats(0, 0)}, false},
		"bias":        {api.Layer{Kind: api.LayerDense, Out: 2, Weights: rats(1, 2), Bias: rats(0)}, false},
		"out 0":       {api.Layer{Kind: api.LayerDense, Weights: rats(1, 2)}, false},
		"canonical":   {api.Layer{Kind: api.LayerDense, Out: 1, Weights: []api.Rat{{Neg: true}}, Bias: rats(0)}, false},
		"bias form":   {api.Layer{Kind: api.LayerDense, Out: 1, Weights: rats(1), Bias: []api.Rat{{Den: api.Nat{1}}}}, false},
		"too many":    {api.Layer{Kind: api.LayerDense, Out: 1, Weights: big, Bias: rats(0)}, false},
		"most":        {api.Layer{Kind: api.LayerDense, Out: 1, Weights: big[1:], Bias: rats(0)}, true},
		"dense kh":    {api.Layer{Kind: api.LayerDense, Out: 1, KH: 1, Weights: rats(1), Bias: rats(0)}, false},
		"conv pad":    {api.Layer{Kind: api.LayerConv, Out: 1, KH: 1, KW: 2, Stride: 1, Pad: 1, Weights: rats(1, 2), Bias: rats(0)}, false},
		"conv kernel": {api.Layer{Kind: api.LayerConv, Out: 1, KH: 1, KW: 65, Stride: 1, Weights: rats(1), Bias: rats(0)}, false},
		"conv size":   {api.Layer{Kind: api.LayerConv, Out: 1, KH: 2, KW: 1, Stride: 1, Weights: rats(1), Bias: rats(0)}, false},
		"conv":        {api.Layer{Kind: api.LayerConv, Out: 1, KH: 2, KW: 1, Stride: 64, Weights: rats(1, 2), Bias: rats(0)}, true},
		"pool stride": {api.Layer{Kind: api.LayerMaxPool, KH: 1, KW: 1}, false},
		"pool pad":    {api.Layer{Kind: api.LayerAvgPool, KH: 2, KW: 2, Stride: 1, Pad: 1}, false},
	} {
		if Valid(api.Model{Input: []int{4}, Layers: []api.Layer{c.l}}) != c.ok {
			t.Error(name)
		}
	}
	m := api.Model{Input: []int{1}, Layers: make([]api.Layer, 64)}
	for i := range m.Layers {
		m.Layers[i].Kind = api.LayerRelu
	}
	if !Valid(m) {
		t.Error("64 layers")
	}
	m.Layers = append(m.Layers, m.Layers[0])
	if Valid(m) {
		t.Error("65 layers")
	}
}

func TestFile(t *testing.T) {
	m := api.Model{Input: []int{1}}
	b, e := Encode(m)
	if e != api.OK || len(b) != 39 || !bytes.Equal(b, seal([]byte{1, 2, 0})) {
		t.Error(b, e)
	}
	m = sample()
	b, e = Encode(m)
	back, f := Decode(b)
	if e != api.OK || f != api.OK || !Equal(m, back) || Params(back) != 11 || !Equal(m, sample()) {
		t.Error(e, f, back)
	}
	for i := range b {
		c := bytes.Clone(b)
		c[i] ^= 4
		want := api.ErrSum
		if i < 4 {
			want = api.ErrForm
		}
		if x, e := Decode(c); e != want || len(x.Input)+len(x.Layers) != 0 {
			t.Error(i, e)
		}
	}
}

func TestErrors(t *testing.T) {
	if b, e := Encode(api.Model{}); e != api.ErrArg || len(b) != 0 {
		t.Error(e)
	}
	wide := make(api.Nat, 20)
	wide[19] = 1
	big := api.Layer{Kind: api.LayerDense, Out: 1, Weights: make([]api.Rat, api.MaxElems), Bias: rats(0)}
	for i := range big.Weights {
		big.Weights[i] = api.Rat{Num: natural.Make(wide)}
	}
	if b, e := Encode(api.Model{Input: []int{1}, Layers: []api.Layer{big}}); e != api.ErrLimit || len(b) != 0 {
		t.Error(e)
	}
	good := body(sample())
	for _, c := range []struct {
		b []byte
		e api.Errno
	}{
		{make([]byte, api.MaxBytes+1), api.ErrLimit}, {nil, api.ErrForm}, {[]byte("RLUM"), api.ErrForm}, {seal(nil)[:35], api.ErrForm}, {seal(nil), api.ErrForm},
		{append([]byte("RLUX"), make([]byte, 50)...), api.ErrForm}, {append([]byte("RLUM"), make([]byte, 50)...), api.ErrSum}, {seal([]byte{1, 2, 0, 0}), api.ErrForm}, {seal([]byte{1, 2}), api.ErrForm},
		{seal([]byte{1, 0, 0}), api.ErrArg}, {seal([]byte{0, 0}), api.ErrArg}, {seal([]byte{255, 255, 255, 255, 15, 2}), api.ErrForm}, {seal(good[:len(good)-1]), api.ErrForm},
		{seal([]byte{1, 2, 1, 10, 0, 2, 0, 0, 0, 0, 0, 0}), api.ErrArg}, {seal([]byte{1, 2, 1, 2, 0, 2, 0, 0, 0, 0, 1, 1, 0, 0, 0}), api.ErrForm},
	} {
		if m, e := Decode(c.b); e != c.e || len(m.Input)+len(m.Layers) != 0 {
			t.Error(len(c.b), e, c.e)
		}
	}
}

func TestEqual(t *testing.T) {
	a, b := sample(), sample()
	if !Equal(a, b) || !Equal(api.Model{Input: []int{}}, api.Model{}) {
		t.Error("equal")
	}
	b.Layers[0].Weights[2] = api.Rat{Num: api.Nat{3}, Den: api.Nat{1}}
	if Equal(a, b) {
		t.Error("numbers are compared by their fields")
	}
	b = sample()
	b.Layers[3].Stride = 2
	if Equal(a, b) {
		t.Error("stride")
	}
}

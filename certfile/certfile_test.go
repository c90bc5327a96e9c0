package certfile

import (
	"bytes"
	"slices"
	"testing"

	"relucert/api"
	"relucert/compress"
	"relucert/digest"
	"relucert/rational"
	"relucert/testkit"
	"relucert/tree"
	"relucert/wire"
)

var form = testkit.Form

func sample() api.Node {
	half, _ := rational.Frac(-1, 2)
	proof := []api.Mult{{Row: api.Row{Kind: api.RowTri, Index: 3, Lo: 1, Hi: 2}, Coef: rational.Of(7)}, {Row: api.Row{Kind: -1, Index: -2}, Coef: half}}
	return api.Node{
		Lemmas: []api.Lemma{{Unit: 1, Upper: true, Value: half, Proof: proof}, {Unit: -4}},
		Split:  api.Decision{Kind: api.DecBelow, Index: 9, At: half},
		Kids:   []api.Node{{Empty: true, Proof: proof}, {Split: api.Decision{Kind: api.DecOn}, Kids: []api.Node{{}, {Lemmas: []api.Lemma{{}}}}}},
	}
}

// seal makes a file of an unpacked list.
func seal(body []byte) []byte { return sealPacked(compress.Pack(body)) }

func sealPacked(packed []byte) []byte {
	b := slices.Concat([]byte("RLUC"), make([]byte, 32), packed)
	sum := digest.Sum(b)
	return append(b, sum[:]...)
}

func TestNodes(t *testing.T) {
	if b := AppendNode([]byte{9}, api.Node{}); !bytes.Equal(b, []byte{9, 0, 0, 0}) {
		t.Error(b)
	}
	if b := AppendNode(nil, api.Node{Empty: true}); !bytes.Equal(b, []byte{1, 0, 0}) {
		t.Error(b)
	}
	inner := api.Node{Split: api.Decision{Kind: api.DecAbove, Index: 2, At: rational.Of(1)}, Kids: []api.Node{{}, {Empty: true}}}
	if b := AppendNode(nil, inner); !bytes.Equal(b, []byte{2, 0, 6, 4, 0, 1, 1, 0, 0, 0, 0, 0, 0, 0, 1, 0, 0}) {
		t.Error(b)
	}
	lemma := api.Node{Lemmas: []api.Lemma{{Unit: 3, Upper: true, Proof: []api.Mult{{Row: api.Row{Kind: 1, Index: 2, Lo: 3, Hi: 4}}}}}}
	if b := AppendNode(nil, lemma); !bytes.Equal(b, []byte{0, 1, 6, 1, 0, 0, 0, 1, 2, 4, 6, 8, 0, 0, 0, 0}) {
		t.Error(b)
	}
	if b := AppendDecision(nil, inner.Split); !bytes.Equal(b, []byte{6, 4, 0, 1, 1, 0, 0, 0, 0}) {
		t.Error(b)
	}
}

func TestFile(t *testing.T) {
	b, e := Encode(api.Cert{})
	if e != api.OK || len(b) != 71 || !bytes.Equal(b, seal([]byte{0})) {
		t.Error(b, e)
	}
	c := api.Cert{Trees: []api.Node{sample(), {}, sample()}}
	c.Digest[5] = 77
	b, e = Encode(c)
	d, f := Decode(b)
	if e != api.OK || f != api.OK || d.Digest != c.Digest || !slices.EqualFunc(c.Trees, d.Trees, tree.Equal) {
		t.Fatal(e, f)
	}
	for i := range b {
		x := bytes.Clone(b)
		x[i] ^= 16
		want := api.ErrSum
		if i < 4 {
			want = api.ErrForm
		}
		if d, e := Decode(x); e != want || len(d.Trees) != 0 || d.Digest != [32]byte{} {
			t.Error(i, e)
		}
	}
}

func TestErrors(t *testing.T) {
	wide := api.Rat{Num: api.Nat{1}, Den: api.Nat{1}}
	for i, n := range []api.Node{{Split: api.Decision{Kind: 1}}, {Lemmas: []api.Lemma{{Value: wide}}}, {Proof: []api.Mult{{Coef: wide}}}, {Lemmas: []api.Lemma{{Proof: []api.Mult{{Coef: wide}}}}}, {Split: api.Decision{Kind: 3, At: wide}, Kids: make([]api.Node, 2)}, {Split: api.Decision{Kind: 3}, Kids: []api.Node{{}, {Proof: []api.Mult{{Coef: wide}}}}}} {
		if b, e := Encode(api.Cert{Trees: []api.Node{{}, n}}); e != api.ErrArg || len(b) != 0 {
			t.Error(i, e)
		}
	}
	limbs := make(api.Nat, 1<<20+1)
	limbs[1<<20] = 1
	big := api.Node{Lemmas: []api.Lemma{{Value: api.Rat{Num: limbs}}}}
	if b, e := Encode(api.Cert{Trees: []api.Node{big}}); e != api.ErrLimit || len(b) != 0 {
		t.Error(e)
	}
	noise := make(api.Nat, 300000)
	x := uint32(1)
	for i := range noise {
		x ^= x << 13
		x ^= x >> 17
		x ^= x << 5
		noise[i] = x
	}
	if b, e := Encode(api.Cert{Trees: []api.Node{{Lemmas: []api.Lemma{{Value: api.Rat{Num: noise}}}}}}); e != api.ErrLimit || len(b) != 0 {
		t.Error(e)
	}
	leafWithSplit := slices.Concat([]byte{1, 2, 0, 0, 0, 0, 0, 0}, []byte{0, 0, 0, 0, 0, 0})
	for i, c := range []struct {
		b []byte
		e api.Errno
	}{
		{make([]byte, api.MaxBytes+1), api.ErrLimit}, {nil, api.ErrForm}, {seal(nil)[:67], api.ErrForm}, {append([]byte("RLUX"), make([]byte, 80)...), api.ErrForm}, {append([]byte("RLUC"), make([]byte, 80)...), api.ErrSum},
		{sealPacked(nil), api.ErrForm}, {sealPacked([]byte{1, 2, 0}), api.ErrForm}, {sealPacked(wire.AppendUint(nil, 1<<22+1)), api.ErrLimit}, {seal(nil), api.ErrForm}, {seal([]byte{0, 0}), api.ErrForm}, {seal([]byte{1, 3, 0, 0}), api.ErrForm}, {seal([]byte{1, 0, 0}), api.ErrForm},
		{seal([]byte{1, 0, 0, 0}), api.OK}, {seal([]byte{255, 255, 3, 0, 0, 0}), api.ErrForm}, {seal(leafWithSplit), api.ErrArg}, {seal([]byte{1, 0, 1, 0, 2, 0, 0, 0, 0, 0}), api.ErrForm}, {seal([]byte{1, 0, 0, 1, 2, 2, 0, 0, 1, 0, 0}), api.ErrForm},
		{seal(bytes.Repeat([]byte{2, 0, 2, 0, 0, 0, 0}, 300000)), api.ErrForm},
	} {
		if d, e := Decode(c.b); e != c.e || e != api.OK && (len(d.Trees) != 0 || d.Digest != [32]byte{}) {
			t.Error(i, e)
		}
	}
}

func TestDigest(t *testing.T) {
	g := api.Graph{Inputs: 1, Units: []api.Affine{form("x0")}, Outputs: []api.Affine{form("x1")}}
	r := api.Region{Lo: make([]api.Rat, 1), Hi: []api.Rat{rational.Of(1)}}
	c := api.Claim{Kind: api.ClaimRows, Rows: []api.Affine{form("x0")}}
	seen := map[[32]byte]int{}
	for i, change := range []func(){
		func() {}, func() { g.Inputs = 2 }, func() { g.Units = nil }, func() { g.Outputs = append(g.Outputs, form("0")) }, func() { r.Lo[0] = rational.Of(-1) }, func() { r.Rows = []api.Affine{form("x0")} }, func() { c.Kind = 1 }, func() { c.Target = 1 }, func() { c.Margin = rational.Of(1) }, func() { c.Rows = nil }, func() { r.Hi, r.Lo = nil, append(r.Lo, r.Hi...) }, func() { c.Margin.Den = api.Nat{1} },
	} {
		change()
		d := Digest(g, r, c)
		if k, ok := seen[d]; ok {
			t.Error("same digest", i, k)
		}
		seen[d] = i
	}
	want := digest.Sum([]byte("RLUQ\x02\x00\x00\x00\x00\x00\x02\x00\x00\x00\x00\x00"))
	if Digest(api.Graph{Inputs: 1}, api.Region{}, api.Claim{Kind: 1}) != want {
		t.Error("bytes")
	}
}

func TestReaders(t *testing.T) {
	b := AppendDecision(AppendNode(nil, sample()), sample().Split)
	r := wire.New(b)
	n, e := ReadNode(r)
	d, f := ReadDecision(r)
	if e != api.OK || f != api.OK || !tree.Equal(n, sample()) || d.Index != 9 || r.Left() != 0 {
		t.Error(e, f)
	}
	if n, e := ReadNode(r); e != api.ErrForm || !tree.Equal(n, api.Node{}) {
		t.Error(e)
	}
	if d, e := ReadDecision(r); e != api.ErrForm || d.Kind != 0 {
		t.Error(e)
	}
}

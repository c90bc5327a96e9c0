// Package whole tests what the document promises about all layers together: its examples, and the promises that no single chapter makes.
package whole

import (
	"math/rand"
	"slices"
	"testing"

	"relucert/api"
	"relucert/certfile"
	"relucert/checker"
	"relucert/claim"
	"relucert/compile"
	"relucert/engine"
	"relucert/evaluate"
	"relucert/graph"
	"relucert/journal"
	"relucert/linear"
	"relucert/model"
	"relucert/pattern"
	"relucert/rational"
	"relucert/region"
	"relucert/rows"
	"relucert/search"
	"relucert/shell"
	"relucert/simplify"
	"relucert/testkit"
	"relucert/tree"
	"relucert/trim"
	"relucert/verify"
)

var (
	frac = testkit.Frac
	rats = testkit.Rats
	form = testkit.Form
)

func parse(s string) api.Claim {
	c, _, e := claim.Parse(s)
	if e != api.OK {
		panic(s)
	}
	return c
}

func maximum() api.Graph {
	return api.Graph{Inputs: 2, Units: []api.Affine{form("x0 - x1")}, Outputs: []api.Affine{form("x1 + x2")}}
}

func square() api.Region { return api.Region{Lo: rats(0, 0), Hi: rats(1, 1)} }

func mult(kind, index int) api.Mult {
	return api.Mult{Row: api.Row{Kind: kind, Index: index}, Coef: rational.Of(1)}
}

// TestMaximum contains the examples 1 to 6 and 9 of the document.
func TestMaximum(t *testing.T) {
	g, r, o := maximum(), square(), api.Options{Nodes: 100}
	if s := graph.Text(g); s != "inputs 2\nx2 = max(0, x0 - x1)\ny0 = x1 + x2\n" {
		t.Error(s)
	}
	if v, e := verify.Verify(g, r, parse("y0 >= 0"), o); e != api.OK || v.Status != api.Proved {
		t.Error(v, e)
	}
	if v, e := verify.Verify(g, r, parse("y0 >= 1/2"), o); e != api.OK || v.Status != api.Broken {
		t.Error(v, e)
	}
	for goal, n := range map[string]api.Node{
		"x1 + x2":      {Proof: []api.Mult{mult(api.RowLo, 1), mult(api.RowZero, 0)}},
		"x1 + x2 - x0": {Proof: []api.Mult{mult(api.RowAbove, 0)}},
		"x0 - x1 - x2 + 1": {Split: api.Decision{Kind: api.DecOn}, Kids: []api.Node{
			{Proof: []api.Mult{mult(api.RowOnEq, 0)}}, {Proof: []api.Mult{mult(api.RowLo, 0), mult(api.RowHi, 1), mult(api.RowOffEq, 0)}},
		}},
	} {
		q := api.Query{Graph: g, Region: r, Goal: form(goal)}
		if path, e := checker.Tree(q, n); e != api.OK {
			t.Error(goal, path, e)
		}
		wrong := n
		for len(wrong.Kids) > 0 {
			wrong = wrong.Kids[0]
		}
		wrong.Proof = slices.Clone(wrong.Proof)
		wrong.Proof[0].Coef = rational.Of(7)
		if len(n.Kids) > 0 {
			wrong = api.Node{Split: n.Split, Kids: []api.Node{wrong, n.Kids[1]}}
		}
		if path, e := checker.Tree(q, wrong); e != api.ErrProof || len(path) != tree.Depth(n) {
			t.Error(goal, path, e)
		}
	}
	r.Rows = []api.Affine{form("x0 - x1 - 1/4")}
	if i, e := verify.Range(g, r, form("x0"), o); e != api.OK || rational.Cmp(i.Lo, frac(1, 4)) != 0 || rational.Cmp(i.Hi, rational.Of(1)) != 0 {
		t.Error(i, e)
	}
	if x, _, e := verify.Least(api.Query{Graph: g, Region: r, Goal: form("x0 - x1")}, o); e != api.OK || rational.Cmp(x, frac(1, 4)) != 0 {
		t.Error(x, e)
	}
}

// TestIdentity contains the examples 7, 8 and 10.
func TestIdentity(t *testing.T) {
	m := api.Model{Input: []int{2}, Layers: []api.Layer{{Kind: api.LayerDense, Out: 2, Weights: rats(1, 0, 0, 1), Bias: rats(0, 0)}}}
	r := api.Region{Lo: rats(1, 0), Hi: []api.Rat{rational.Of(2), frac(1, 2)}}
	g, _ := verify.Graph(m)
	c := parse("top 0 margin 1/2")
	v, e := verify.Verify(g, r, c, api.Options{Nodes: 9})
	if e != api.OK || v.Status != api.Proved {
		t.Fatal(v, e)
	}
	k, e := compile.Compile(m, r, 8)
	if e != api.OK || rational.Cmp(k.Err[0], frac(1, 256)) != 0 || rational.Cmp(k.Err[1], frac(1, 256)) != 0 || k.InShift != 8 {
		t.Error(k.Err, e)
	}
	v.Cert.Digest = certfile.Digest(g, r, c)
	eng, e := engine.New(m, r, c, v.Cert, 8)
	if e != api.OK {
		t.Fatal(e)
	}
	if a := eng.Direct([]api.Rat{frac(3, 2), frac(1, 4)}); a.Status != api.AnswerProved || a.Class != 0 {
		t.Error(a)
	}
	if a := eng.Direct(rats(0, 0)); a.Status != api.AnswerOutside {
		t.Error(a)
	}
	data, _ := model.Encode(m)
	out, _ := shell.Run("model m\nbox 1 0 : 2 1/2\nclaim y0 >= y1\nverify\n", []api.File{{Name: "m", Data: data}})
	if out != "model 1 layers 6 parameters 0 units\nregion 2 inputs\nclaim y0 - y1 >= 0\nproved\n" {
		t.Error(out)
	}
}

func weights(r *rand.Rand, n int) []api.Rat {
	var l []api.Rat
	for range n {
		l = append(l, frac(r.Intn(13)-6, 1+r.Intn(4)))
	}
	return l
}

func network(r *rand.Rand) api.Model {
	return api.Model{Input: []int{1, 2, 2}, Layers: []api.Layer{
		{Kind: api.LayerConv, Out: 1, KH: 2, KW: 2, Stride: 1, Pad: 1, Weights: weights(r, 4), Bias: weights(r, 1)}, {Kind: api.LayerAvgPool, KH: 2, KW: 2, Stride: 1}, {Kind: api.LayerRelu}, {Kind: api.LayerAdd, From: -1}, {Kind: api.LayerMaxPool, KH: 1, KW: 2, Stride: 1},
		{Kind: api.LayerFlatten}, {Kind: api.LayerDense, Out: 3, Weights: weights(r, 6), Bias: weights(r, 3)}, {Kind: api.LayerRelu}, {Kind: api.LayerDense, Out: 2, Weights: weights(r, 6), Bias: weights(r, 2)},
	}}
}

// changed returns graphs with the same outputs, and the graph and the region translated by an offset.
func changed(r *rand.Rand, g api.Graph, reg api.Region) ([]api.Graph, api.Graph, api.Region) {
	var same []api.Graph
	unit := r.Intn(len(g.Units))
	s, _ := graph.Scale(g, unit, frac(2, 3))
	h, _ := graph.Halve(g, unit)
	same = append(same, s, h, simplify.Simplify(h))
	if p, e := graph.Permute(g, r.Perm(len(g.Units))); e == api.OK {
		same = append(same, p)
	}
	moved, box := g, api.Region{Rows: slices.Clone(reg.Rows)}
	moved.Units, moved.Outputs = slices.Clone(g.Units), slices.Clone(g.Outputs)
	for i := range g.Inputs {
		d := frac(r.Intn(5)-2, 3)
		box.Lo = append(box.Lo, rational.Add(reg.Lo[i], d))
		box.Hi = append(box.Hi, rational.Add(reg.Hi[i], d))
		back := api.Affine{Terms: []api.Term{{Var: i, Coef: rational.Of(1)}}, Const: rational.Neg(d)}
		for _, l := range [][]api.Affine{moved.Units, moved.Outputs, box.Rows} {
			for k := range l {
				l[k] = linear.Substitute(l[k], i, back)
			}
		}
	}
	return same, moved, box
}

// TestNetworks draws networks and follows them through all layers.
func TestNetworks(t *testing.T) {
	r := rand.New(rand.NewSource(1))
	proved := 0
	for range 25 {
		m := network(r)
		data, _ := model.Encode(m)
		g, e := verify.Graph(m)
		if e != api.OK || len(g.Units) == 0 {
			t.Fatal(e)
		}
		reg := api.Region{Lo: rats(-1, 0, 0, -1), Hi: rats(0, 1, 1, 0), Rows: []api.Affine{form("x0 + x1 + 1/2")}}
		o := api.Options{Domain: 2, Learn: true, Nodes: 4000}
		margin, e := verify.Margin(g, reg, 0, o)
		if e != api.OK {
			t.Fatal(e)
		}
		for range 10 {
			x := []api.Rat{frac(-r.Intn(5), 4), frac(r.Intn(5), 4), frac(r.Intn(5), 4), frac(-r.Intn(5), 4)}
			exact, _ := evaluate.Run(m, x)
			y, _ := graph.Outputs(g, x)
			of, _ := pattern.Of(g, x)
			for j, p := range of {
				if p == api.PhaseOpen {
					of[j] = api.PhaseOff
				}
			}
			_, outputs, _ := pattern.Forms(g, of)
			for i := range y {
				v, _ := linear.Eval(outputs[i], x)
				if rational.Cmp(y[i], exact[i]) != 0 || rational.Cmp(v, exact[i]) != 0 {
					t.Fatal("lowering", x)
				}
			}
			if region.Contains(reg, x) && rational.Cmp(rational.Sub(y[0], y[1]), margin) < 0 {
				t.Fatal("margin", x)
			}
		}
		for _, step := range []int{0, 1} {
			c := api.Claim{Kind: api.ClaimRows, Rows: []api.Affine{linear.Sub(form("x0 - x1"), api.Affine{Const: rational.Add(margin, frac(step, 9))})}}
			want := api.Proved + step
			verdicts(t, r, g, reg, c, want)
			if step == 0 {
				certificates(t, r, g, reg, c, data)
				proved++
			}
		}
		serve(t, r, m, g, reg, margin)
	}
	if proved == 0 {
		t.Error("nothing proved")
	}
}

// verdicts compares the verdicts of all options and of equivalent networks.
func verdicts(t *testing.T, r *rand.Rand, g api.Graph, reg api.Region, c api.Claim, want int) {
	t.Helper()
	same, moved, box := changed(r, g, reg)
	o := api.Options{Domain: r.Intn(3), Rule: r.Intn(4), Cuts: r.Intn(2) == 0, Learn: r.Intn(2) == 0, Bits: r.Intn(2) * 7, Nodes: api.MaxNodes, Workers: r.Intn(5)}
	for i, h := range append(same, g) {
		if v, e := verify.Verify(h, reg, c, o); e != api.OK || v.Status != want {
			t.Fatal("verdict", i, v.Status, want, e)
		}
	}
	if v, e := verify.Verify(moved, box, c, o); e != api.OK || v.Status != want {
		t.Fatal("moved", v.Status, want, e)
	}
}

// certificates writes, reads, cuts, resumes and trims a certificate, and lets a script check it.
func certificates(t *testing.T, r *rand.Rand, g api.Graph, reg api.Region, c api.Claim, data []byte) {
	t.Helper()
	v, e := verify.Verify(g, reg, c, api.Options{Domain: 1, Nodes: api.MaxNodes})
	if e != api.OK || v.Status != api.Proved {
		t.Fatal(v.Status, e)
	}
	v.Cert.Digest = certfile.Digest(g, reg, c)
	goals, _ := claim.Goals(c, len(g.Outputs))
	goal, _ := rows.Goal(g, goals[0])
	q := api.Query{Graph: g, Region: reg, Goal: goal}
	file, e := certfile.Encode(v.Cert)
	if e != api.OK {
		t.Fatal(e)
	}
	script := "model m\nbox -1 0 0 -1 : 0 1 1 0\ncut x0 + x1 + 1/2\nclaim " + claim.Text(c) + "\nload cert\ncheck\ntrim\nsave cert\nload cert\ncheck\n"
	out, _ := shell.Run(script, []api.File{{Name: "m", Data: data}, {Name: "cert", Data: file}})
	if want := "loaded cert\naccepted\ntrimmed\nsaved cert\nloaded cert\naccepted\n"; len(out) < len(want) || out[len(out)-len(want):] != want {
		t.Fatal(out)
	}
	b := journal.New(v.Cert.Digest)
	for _, entry := range search.Entries(v.Cert.Trees[0]) {
		if b, e = journal.Append(b, entry); e != api.OK {
			t.Fatal(e)
		}
	}
	_, whole, _, _ := journal.Recover(b)
	built, missing, e := journal.Build(whole)
	if _, f := checker.Tree(q, built); e != api.OK || f != api.OK || len(missing) > 0 {
		t.Fatal("built", e, f)
	}
	_, part, _, e := journal.Recover(b[:44+r.Intn(len(b)-43)])
	resumed, f := search.Resume(q, api.Options{Nodes: api.MaxNodes}, part)
	if e != api.OK || f != api.OK || resumed.Status != api.Proved {
		t.Fatal("resumed", resumed.Status, e, f)
	}
	trimmed, e := trim.Trim(q, resumed.Tree)
	if _, f := checker.Tree(q, trimmed); e != api.OK || f != api.OK {
		t.Fatal("trimmed", e, f)
	}
}

// serve starts an engine where the margin permits it, and compares its answers with the model.
func serve(t *testing.T, r *rand.Rand, m api.Model, g api.Graph, reg api.Region, margin api.Rat) {
	t.Helper()
	if rational.Cmp(margin, frac(1, 100)) < 0 {
		return
	}
	c := api.Claim{Kind: api.ClaimTop, Margin: margin}
	v, _ := verify.Verify(g, reg, c, api.Options{Nodes: api.MaxNodes})
	v.Cert.Digest = certfile.Digest(g, reg, c)
	eng, e := engine.New(m, reg, c, v.Cert, 20)
	if e != api.OK {
		t.Fatal("engine", e)
	}
	for range 10 {
		x := []api.Rat{frac(-r.Intn(9), 6), frac(r.Intn(9), 6), frac(r.Intn(9), 6), frac(-r.Intn(9), 6)}
		a := eng.Direct(x)
		if region.Contains(reg, x) != (a.Status == api.AnswerProved) || a.Class != 0 {
			t.Fatal("answer", a)
		}
	}
}

package whole

import (
	"math"
	"math/rand"
	"strings"
	"testing"

	"relucert/api"
	"relucert/box"
	"relucert/certfile"
	"relucert/checker"
	"relucert/claim"
	"relucert/clause"
	"relucert/compile"
	"relucert/compress"
	"relucert/conflict"
	"relucert/cuts"
	"relucert/decimal"
	"relucert/derive"
	"relucert/digest"
	"relucert/domain"
	"relucert/duals"
	"relucert/engine"
	"relucert/evaluate"
	"relucert/fourier"
	"relucert/graph"
	"relucert/im2col"
	"relucert/journal"
	"relucert/kernel"
	"relucert/lower"
	"relucert/model"
	"relucert/nodelp"
	"relucert/pattern"
	"relucert/phase"
	"relucert/program"
	"relucert/propagate"
	"relucert/quantize"
	"relucert/rational"
	"relucert/region"
	"relucert/reuse"
	"relucert/rows"
	"relucert/search"
	"relucert/shape"
	"relucert/shell"
	"relucert/simplex"
	"relucert/simplify"
	"relucert/split"
	"relucert/symbolic"
	"relucert/tensor"
	"relucert/tree"
	"relucert/trim"
	"relucert/verify"
	"relucert/warm"
	"relucert/wire"
	"relucert/witness"
)

// chaos draws values that are seldom valid.
type chaos struct{ *rand.Rand }

func (c chaos) number() int {
	switch c.Intn(12) {
	case 0:
		return math.MaxInt
	case 1:
		return math.MinInt
	case 2:
		return c.Intn(2000) - 1000
	}
	return c.Intn(6) - 1
}

func (c chaos) rat() api.Rat {
	nat := func() api.Nat {
		var n api.Nat
		for range c.Intn(3) {
			n = append(n, uint32(c.Intn(4)))
		}
		return n
	}
	if c.Intn(2) == 0 {
		return rational.Canon(api.Rat{Neg: c.Intn(2) == 0, Num: nat(), Den: nat()})
	}
	return api.Rat{Neg: c.Intn(2) == 0, Num: nat(), Den: nat()}
}

// many returns a short list.
func many[T any](c chaos, draw func() T) []T {
	var l []T
	for range c.Intn(4) {
		l = append(l, draw())
	}
	return l
}

func (c chaos) form() api.Affine {
	return api.Affine{Terms: many(c, func() api.Term { return api.Term{Var: c.number(), Coef: c.rat()} }), Const: c.rat()}
}

func (c chaos) row() api.Row {
	return api.Row{Kind: c.Intn(15), Index: c.number(), Lo: c.number(), Hi: c.number()}
}

func (c chaos) mult() api.Mult { return api.Mult{Row: c.row(), Coef: c.rat()} }

func (c chaos) decision() api.Decision {
	d := api.Decision{Kind: c.Intn(6), Index: c.number()}
	if c.Intn(2) == 0 {
		d.At = c.rat()
	}
	return d
}

func (c chaos) lemma() api.Lemma {
	return api.Lemma{Unit: c.number(), Upper: c.Intn(2) == 0, Value: c.rat(), Proof: many(c, c.mult)}
}

func (c chaos) node(depth int) api.Node {
	n := api.Node{Lemmas: many(c, c.lemma), Empty: c.Intn(3) == 0}
	if c.Intn(3) == 0 {
		n.Split = c.decision()
	}
	if depth > 0 && c.Intn(2) == 0 {
		n.Split = c.decision()
		for range c.Intn(4) {
			n.Kids = append(n.Kids, c.node(depth-1))
		}
	} else {
		n.Proof = many(c, c.mult)
	}
	return n
}

// query is valid in half of the cases.
func (c chaos) query() api.Query {
	q := api.Query{Graph: maximum(), Region: square(), Goal: form("x1 + x2 - 1/2*x0")}
	switch c.Intn(8) {
	case 0:
		q.Graph = api.Graph{Inputs: c.number(), Units: many(c, c.form), Outputs: many(c, c.form)}
	case 1:
		q.Region.Lo = many(c, c.rat)
	case 2:
		q.Region.Rows = many(c, c.form)
	case 3:
		q.Goal = c.form()
	}
	return q
}

func (c chaos) scope() api.Scope {
	return api.Scope{Query: c.query(), Path: many(c, c.decision), Lemmas: many(c, c.lemma)}
}

func (c chaos) layer() api.Layer {
	return api.Layer{Kind: c.Intn(9), From: c.number(), Out: c.number(), KH: c.number(), KW: c.number(), Stride: c.number(), Pad: c.number(), Weights: many(c, c.rat), Bias: many(c, c.rat)}
}

func (c chaos) text(words string) string {
	var b strings.Builder
	all := strings.Split(words, " ")
	for range c.Intn(9) {
		b.WriteString(all[c.Intn(len(all))])
		if c.Intn(2) == 0 {
			b.WriteByte(' ')
		}
	}
	return b.String()
}

func (c chaos) bytes() []byte {
	b := make([]byte, c.Intn(60))
	for i := range b {
		b[i] = byte(c.Intn(4))
	}
	return b
}

// seal appends a digest, so that what is before it is examined.
func seal(head string, body []byte) []byte {
	b := append([]byte(head), body...)
	sum := digest.Sum(b)
	return append(b, sum[:]...)
}

// TestNetworkCalls calls functions about numbers, models and graphs with any arguments: none may panic.
func TestNetworkCalls(t *testing.T) {
	c := chaos{rand.New(rand.NewSource(1))}
	for range 3000 {
		ints := many(c, c.number)
		l := c.layer()
		m := api.Model{Input: ints, Layers: many(c, c.layer)}
		tensor.Index(ints, many(c, c.number))
		tensor.At(ints, c.number())
		tensor.Windows(ints, c.number(), c.number(), c.number(), c.number())
		model.Encode(m)
		model.Decode(seal("RLUM", c.bytes()))
		shape.Out(ints, [][]int{many(c, c.number)}, l)
		shape.Of(m)
		evaluate.Run(m, many(c, func() api.Rat { return rational.Canon(c.rat()) }))
		lower.Lower(m)
		im2col.Gather(ints, l)
		im2col.Pool(ints, l)
		q := c.query()
		x := many(c, c.rat)
		quantize.Make(m, q.Region, c.number())
		compile.Compile(m, q.Region, c.number())
		engine.New(m, q.Region, api.Claim{Kind: c.Intn(4), Target: c.number(), Margin: c.rat(), Rows: many(c, c.form)}, api.Cert{Trees: many(c, func() api.Node { return c.node(2) })}, c.number())
		k := api.Kernel{Sizes: many(c, c.number), Output: c.number(), InShift: c.number(), OutShift: c.number(), Lo: x, Hi: x, Err: x}
		k.Ops = many(c, func() api.Op {
			return api.Op{Kind: c.Intn(9), Dst: c.number(), Src: c.number(), Other: c.number(), Cols: c.number(), Inner: c.number(), Index: ints, Shift: c.number()}
		})
		kernel.Tiled(k, []int64{1}, c.number(), c.number())
		compile.Eval(k, x)
		graph.Outputs(q.Graph, x)
		graph.Scale(q.Graph, c.number(), c.rat())
		graph.Permute(q.Graph, ints)
		graph.Halve(q.Graph, c.number())
		simplify.Simplify(q.Graph)
		pattern.Of(q.Graph, x)
		pattern.Forms(q.Graph, ints)
		region.Contains(q.Region, x)
		region.Clip(q.Region, c.decision())
		region.Ball(x, c.rat(), q.Region)
		wire.New(c.bytes()).Rat()
		compress.Unpack(c.bytes(), c.number())
		decimal.Parse(c.text("1 0 / . - 22"))
		claim.Parse(c.text("top margin y0 >= <= ; 1 / x 2 *"))
		phase.Parse(c.text("u0 x1 on off >= 1/2 <="))
	}
}

// TestProofCalls calls functions about scopes, trees and programs with any arguments: none may panic.
func TestProofCalls(t *testing.T) {
	c := chaos{rand.New(rand.NewSource(2))}
	for range 3000 {
		s, f := c.scope(), c.form()
		q, proof, n := s.Query, many(c, c.mult), c.node(3)
		x := many(c, func() api.Rat { return rational.Canon(c.rat()) })
		rows.All(s)
		rows.Form(s, c.row())
		rows.Best(s, c.number())
		rows.Phase(s, c.number())
		rows.Member(s, x)
		rows.Goal(q.Graph, f)
		derive.Scope(s)
		derive.Proves(s, f, proof)
		derive.Collect(proof)
		number := c.Intn(4)
		if d, ok := symbolic.Get(number); ok {
			domain.Run(d, s, c.number())
			d.Lower(s, f)
		}
		box.Variable(s, c.number())
		symbolic.Back(s, f)
		cuts.Loop(s, f)
		cuts.Violated(s, x)
		part, _ := nodelp.Solve(s, f)
		nodelp.Input(s, part)
		split.Choose(s, x, c.number())
		split.Kids(s, c.decision())
		phase.Extend(s.Path, c.decision())
		phase.Path(s.Path, c.number())
		conflict.Used(s, proof)
		reason := api.Reason{Clause: many(c, func() api.Literal { return api.Literal{Unit: c.number()} }), Lemmas: s.Lemmas, Proof: proof}
		conflict.Valid(q, reason)
		conflict.Leaf(s, reason)
		clause.Status(reason.Clause, many(c, c.number))
		propagate.Fix([]api.Clause{reason.Clause}, many(c, func() int { return c.Intn(4) }))
		entries := many(c, func() api.Entry { return api.Entry{Path: many(c, c.decision), Leaf: c.node(1)} })
		o := api.Options{Domain: c.Intn(4), Rule: c.Intn(5), Cuts: c.Intn(2) == 0, Learn: c.Intn(2) == 0, Bits: c.number(), Nodes: c.Intn(9), Workers: c.number()}
		search.Entries(n)
		search.Resume(q, o, entries)
		search.Parallel(q, o, c.bytes())
		witness.Attack(q)
		witness.Simplify(q, x)
		verify.Least(q, o)
		verify.Range(q.Graph, q.Region, f, o)
		tree.Replace(n, s.Path, c.node(1))
		tree.Scope(q, n, s.Path)
		certfile.Encode(api.Cert{Trees: []api.Node{n}})
		certfile.Decode(seal("RLUC", append(make([]byte, 32), compress.Pack(c.bytes())...)))
		journal.Build(entries)
		journal.Recover(append(journal.New([32]byte{}), c.bytes()...))
		checker.Tree(q, n)
		trim.Lemmas(n)
		trim.Trim(q, n)
		reuse.Reuse(q, n, o)
		p := api.Program{Vars: c.number(), Rows: many(c, c.form), Objective: f}
		solution, _ := simplex.Solve(p)
		duals.Check(p, solution)
		program.Dual(p)
		fourier.Min(f, p.Rows, p.Vars)
		fourier.Eliminate(p.Rows, c.number())
		if w, e := warm.New(p); e == api.OK {
			w.Add(c.form())
			w.Solve()
		}
	}
}

// TestScripts runs random scripts: each line that has words yields one line.
func TestScripts(t *testing.T) {
	c := chaos{rand.New(rand.NewSource(3))}
	data, _ := model.Encode(network(c.Rand))
	for range 400 {
		var script strings.Builder
		want := 0
		for range c.Intn(14) {
			line := c.text("model m box 0 0 0 0 : 1 1 1 1 cut x0 claim top 0 y0 >= y1 margin verify check trim save load s range eval engine 8 ask 1/2")
			if c.Intn(3) == 0 {
				line = []string{"model m", "box 0 0 0 0 : 1 1 1 1", "claim y0 >= -99", "verify", "save s", "load s", "check", "trim", "margin 0", "eval 0 0 0 1", "engine 8", "ask 0 0 0 1"}[c.Intn(12)]
			}
			script.WriteString(line + "\n")
			if strings.Trim(line, " ") != "" {
				want++
			}
		}
		out, _ := shell.Run(script.String(), []api.File{{Name: "m", Data: data}, {Name: "s", Data: c.bytes()}})
		if strings.Count(out, "\n") != want {
			t.Fatal(script.String(), out)
		}
	}
}

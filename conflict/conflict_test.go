package conflict

import (
	"math/rand"
	"slices"
	"testing"

	"relucert/api"
	"relucert/clause"
	"relucert/derive"
	"relucert/domain"
	"relucert/graph"
	"relucert/linear"
	"relucert/nodelp"
	"relucert/rational"
	"relucert/region"
	"relucert/symbolic"
	"relucert/testkit"
)

var (
	frac = testkit.Frac
	form = testkit.Form
)

func mult(kind, unit, lo, hi int) api.Mult {
	return api.Mult{Row: api.Row{Kind: kind, Index: unit, Lo: lo, Hi: hi}, Coef: rational.Of(1)}
}

func sample(path ...api.Decision) api.Scope {
	return api.Scope{Query: api.Query{Graph: api.Graph{Inputs: 1, Units: []api.Affine{form("x0 - 1"), form("x1 - 1")}, Outputs: []api.Affine{form("x1")}}, Region: api.Region{Lo: []api.Rat{{}}, Hi: []api.Rat{rational.Of(3)}}, Goal: form("x0 - 1")}, Path: path}
}

func on(unit int) api.Decision { return api.Decision{Kind: api.DecOn, Index: unit} }

func off(unit int) api.Decision { return api.Decision{Kind: api.DecOff, Index: unit} }

func TestExample(t *testing.T) {
	s := sample(off(1), on(0), on(0))
	proof := []api.Mult{mult(api.RowOn, 0, 0, 0)}
	if d, l := Used(s, proof); !slices.Equal(d, []int{1}) || len(l) != 0 {
		t.Error(d, l)
	}
	r, e := Learn(s, false, proof)
	if e != api.OK || clause.Text(r.Clause) != "u0 off" || r.Empty || len(r.Lemmas) != 0 || len(r.Proof) != 1 || !Valid(s.Query, r) {
		t.Error(r, e)
	}
	if q := Scope(s.Query, r); len(q.Path) != 1 || q.Path[0].Kind != api.DecOn {
		t.Error(q.Path)
	}
}

func TestLemmas(t *testing.T) {
	s := sample(on(0))
	s.Lemmas = []api.Lemma{
		{Upper: true, Value: rational.Of(2), Proof: []api.Mult{mult(api.RowHi, 0, 0, 0)}},
		{Unit: 1, Value: rational.Of(-1), Proof: []api.Mult{mult(api.RowZero, 0, 0, 0)}},
		{Value: rational.Of(0), Proof: []api.Mult{mult(api.RowOn, 0, 0, 0)}},
	}
	proof := []api.Mult{mult(api.RowLower, 0, 3, 0)}
	if d, l := Used(s, proof); !slices.Equal(d, []int{0}) || !slices.Equal(l, []int{2}) {
		t.Error(d, l)
	}
	r, e := Learn(s, false, proof)
	if e != api.OK || clause.Text(r.Clause) != "u0 off" || len(r.Lemmas) != 1 || r.Proof[0].Row.Lo != 1 || !Valid(s.Query, r) {
		t.Fatal(r, e)
	}
	leaf, e := Leaf(s, r)
	if e != api.OK || len(leaf.Kids) != 0 || leaf.Proof[0].Row.Lo != 4 || len(leaf.Lemmas) != 1 {
		t.Fatal(leaf, e)
	}
	s.Lemmas = append(s.Lemmas, leaf.Lemmas...)
	if !derive.Scope(s) || !derive.Proves(s, s.Query.Goal, leaf.Proof) {
		t.Error("leaf")
	}
	if n, e := Leaf(sample(off(0)), r); e != api.ErrState || len(n.Proof) != 0 {
		t.Error(e)
	}
	r.Proof[0].Row.Lo = 2
	if n, e := Leaf(sample(on(0)), r); e != api.ErrArg || len(n.Proof) != 0 || Valid(s.Query, r) {
		t.Error(e)
	}
}

func TestErrors(t *testing.T) {
	proof := []api.Mult{mult(api.RowOn, 0, 0, 0)}
	above := api.Decision{Kind: api.DecAbove, At: rational.Of(1)}
	both := []api.Mult{mult(api.RowOn, 0, 0, 0), mult(api.RowOff, 0, 0, 0)}
	less := sample(on(0), off(0))
	less.Query.Goal = form("0")
	bad := sample(on(0))
	bad.Lemmas = []api.Lemma{{Value: rational.Of(7)}}
	for i, c := range []struct {
		s     api.Scope
		empty bool
		l     []api.Mult
		e     api.Errno
	}{
		{bad, false, proof, api.ErrArg}, {sample(on(5)), false, proof, api.ErrArg}, {api.Scope{}, false, nil, api.ErrArg}, {sample(on(0)), true, proof, api.ErrProof}, {sample(), false, proof, api.ErrProof},
		{sample(above), false, []api.Mult{mult(api.RowPath, 0, 0, 0)}, api.ErrNone}, {less, false, both, api.ErrNone}, {sample(on(0)), false, nil, api.ErrProof},
	} {
		r, e := Learn(c.s, c.empty, c.l)
		if e != c.e || len(r.Clause)+len(r.Proof)+len(r.Lemmas) != 0 {
			t.Error(i, e)
		}
	}
	q := sample().Query
	for i, r := range []api.Reason{{Clause: api.Clause{{Unit: 2}}, Proof: proof}, {Clause: api.Clause{{Unit: 1}, {Unit: 0}}, Proof: proof}, {Clause: api.Clause{{Unit: 0, On: true}}, Proof: proof}, {Clause: api.Clause{{Unit: 0}}, Proof: proof, Empty: true}, {Proof: proof}} {
		if Valid(q, r) {
			t.Error(i)
		}
	}
	if Valid(api.Query{}, api.Reason{}) {
		t.Error("query")
	}
}

// TestRandom learns from linear programs of random parts.
func TestRandom(t *testing.T) {
	r := rand.New(rand.NewSource(1))
	random := func(vars int) api.Affine {
		var terms []api.Term
		for range 3 {
			terms = append(terms, api.Term{Var: r.Intn(vars), Coef: frac(r.Intn(7)-3, 1+r.Intn(2))})
		}
		f, _ := linear.Make(terms, frac(r.Intn(5)-2, 2))
		return f
	}
	learnt := 0
	for range 300 {
		q := api.Query{Graph: api.Graph{Inputs: 2, Outputs: []api.Affine{form("x0")}}, Region: api.Region{Lo: []api.Rat{rational.Of(-1), {}}, Hi: []api.Rat{rational.Of(1), rational.Of(2)}}}
		for j := range 4 {
			q.Graph.Units = append(q.Graph.Units, random(2+j))
		}
		q.Goal = linear.Add(random(6), form("2"))
		s := api.Scope{Query: q}
		for j := range 4 {
			if r.Intn(2) == 0 {
				s.Path = append(s.Path, api.Decision{Kind: 1 + r.Intn(2), Index: j})
			}
		}
		d, _ := symbolic.Get(r.Intn(3))
		s, _ = domain.Run(d, s, 0)
		x, _ := nodelp.Solve(s, q.Goal)
		if x.Status == api.LPUnbounded || x.Status == api.LPOptimal && rational.Sign(x.Value) < 0 {
			continue
		}
		reason, e := Learn(s, x.Status == api.LPInfeasible, x.Proof)
		if e == api.ErrNone {
			continue
		}
		if e != api.OK || !Valid(q, reason) {
			t.Fatal(e)
		}
		learnt++
		leaf, e := Leaf(s, reason)
		after := s
		after.Lemmas = append(slices.Clone(s.Lemmas), leaf.Lemmas...)
		if e != api.OK || !derive.Scope(after) || leaf.Empty && !derive.Refutes(after, leaf.Proof) || !leaf.Empty && !derive.Proves(after, q.Goal, leaf.Proof) {
			t.Fatal("leaf", e)
		}
		for i := range 25 {
			in := []api.Rat{frac(i/5-2, 2), frac(i%5, 2)}
			values, _ := graph.Values(q.Graph, in)
			pre, _ := graph.Pre(q.Graph, in)
			v, _ := linear.Eval(q.Goal, values)
			holds := slices.ContainsFunc(reason.Clause, func(l api.Literal) bool {
				sign := rational.Sign(pre[l.Unit])
				return sign == 0 || l.On == (sign > 0)
			})
			if region.Contains(q.Region, in) && rational.Sign(v) < 0 && !holds {
				t.Fatal("clause", clause.Text(reason.Clause), in)
			}
		}
	}
	if learnt < 50 {
		t.Error(learnt)
	}
}

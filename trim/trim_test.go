package trim

import (
	"math/rand"
	"slices"
	"testing"

	"relucert/api"
	"relucert/checker"
	"relucert/linear"
	"relucert/rational"
	"relucert/search"
	"relucert/testkit"
	"relucert/tree"
)

var (
	frac = testkit.Frac
	form = testkit.Form
)

func mult(kind, index, lo, hi int) api.Mult {
	return api.Mult{Row: api.Row{Kind: kind, Index: index, Lo: lo, Hi: hi}, Coef: rational.Of(1)}
}

func query(goal string) api.Query {
	return api.Query{Graph: api.Graph{Inputs: 1, Units: []api.Affine{form("x0")}, Outputs: []api.Affine{form("x1")}}, Region: api.Region{Lo: []api.Rat{{}}, Hi: []api.Rat{rational.Of(1)}}, Goal: form(goal)}
}

func split(d api.Decision, kids ...api.Node) api.Node { return api.Node{Split: d, Kids: kids} }

func TestExamples(t *testing.T) {
	leaf := api.Node{Proof: []api.Mult{mult(api.RowLo, 0, 0, 0)}}
	got, e := Splits(query("x0"), split(api.Decision{Kind: api.DecOn}, leaf, leaf))
	if e != api.OK || !tree.Equal(got, leaf) {
		t.Error(got, e)
	}
	lower := api.Lemma{Proof: []api.Mult{mult(api.RowLo, 0, 0, 0)}}
	n := api.Node{Lemmas: []api.Lemma{{Upper: true, Value: rational.Of(1), Proof: []api.Mult{mult(api.RowHi, 0, 0, 0)}}, lower}, Proof: []api.Mult{mult(api.RowLower, 0, 2, 0)}}
	want := api.Node{Lemmas: []api.Lemma{lower}, Proof: []api.Mult{mult(api.RowLower, 0, 1, 0)}}
	if got := Lemmas(n); !tree.Equal(got, want) {
		t.Error(got)
	}
	if got := Lemmas(split(api.Decision{Kind: api.DecOn}, leaf)); !tree.Equal(got, api.Node{}) {
		t.Error(got)
	}
}

func TestPaths(t *testing.T) {
	above := func(at api.Rat) api.Decision { return api.Decision{Kind: api.DecAbove, At: at} }
	use := api.Node{Proof: []api.Mult{mult(api.RowPath, 1, 0, 0)}}
	low := api.Node{Proof: []api.Mult{mult(api.RowLo, 0, 0, 0)}}
	// The first split is useless, and the proof behind the second one is renumbered when it is lifted.
	q := query("x0")
	n := split(above(frac(1, 2)), split(above(frac(1, 4)), use, low), low)
	got, e := Splits(q, n)
	if e != api.OK || !tree.Equal(got, low) {
		t.Error(got, e)
	}
	// The goal needs the second split: its first kid uses it, and cannot be lifted.
	q.Goal = form("x1 - 1/4")
	q.Region.Rows = []api.Affine{form("x0 - 1/4")}
	onEq := api.Node{Proof: []api.Mult{mult(api.RowPath, 1, 0, 0), mult(api.RowAbove, 0, 0, 0)}}
	off := api.Node{Empty: true, Proof: []api.Mult{mult(api.RowPoly, 0, 0, 0), mult(api.RowPath, 1, 0, 0)}}
	inner := split(above(frac(1, 4)), onEq, off)
	q.Region.Rows[0] = form("x0 - 1/3")
	direct := api.Node{Proof: []api.Mult{mult(api.RowPoly, 0, 0, 0), mult(api.RowAbove, 0, 0, 0)}}
	got, e = Splits(q, split(above(frac(1, 5)), inner, direct))
	if e != api.OK || tree.Size(got) != 3 || got.Kids[0].Proof[0].Row.Index != 0 || got.Kids[1].Proof[1].Row.Index != 0 {
		t.Error(got, e)
	}
	if _, e := checker.Tree(q, got); e != api.OK {
		t.Error(e)
	}
}

func TestErrors(t *testing.T) {
	bad := api.Node{Proof: []api.Mult{mult(api.RowOn, 0, 0, 0)}}
	for i, c := range []struct {
		q api.Query
		n api.Node
		e api.Errno
	}{{query("x0"), bad, api.ErrProof}, {query("x9"), bad, api.ErrArg}, {query("x0"), split(api.Decision{Kind: api.DecOn}), api.ErrArg}} {
		a, e := Splits(c.q, c.n)
		b, f := Trim(c.q, c.n)
		if e != c.e || f != c.e || !tree.Equal(a, api.Node{}) || !tree.Equal(b, api.Node{}) {
			t.Error(i, e, f)
		}
	}
}

func lemmaCount(n api.Node) int {
	count := 0
	for _, k := range tree.Walk(n) {
		count += len(k.Lemmas)
	}
	return count
}

// TestRandom trims trees of searches, and trees with useless parts.
func TestRandom(t *testing.T) {
	r := rand.New(rand.NewSource(1))
	draw := func(vars int) api.Affine {
		var terms []api.Term
		for range 3 {
			terms = append(terms, api.Term{Var: r.Intn(vars), Coef: frac(r.Intn(7)-3, 1+r.Intn(2))})
		}
		f, _ := linear.Make(terms, frac(r.Intn(5), 2))
		return f
	}
	divided, added := 0, 0
	for range 150 {
		q := api.Query{Graph: api.Graph{Inputs: 2, Outputs: []api.Affine{form("x0")}}, Region: api.Region{Lo: []api.Rat{rational.Of(-1), {}}, Hi: []api.Rat{rational.Of(1), rational.Of(1)}}}
		for j := range 4 {
			q.Graph.Units = append(q.Graph.Units, draw(2+j))
		}
		q.Goal = linear.Add(draw(6), form("1"))
		out, _ := search.Search(q, api.Options{Domain: r.Intn(3), Rule: r.Intn(4), Learn: r.Intn(2) == 0, Nodes: 1000})
		if out.Status != api.Proved {
			continue
		}
		got, e := Trim(q, out.Tree)
		if _, f := checker.Tree(q, got); e != api.OK || f != api.OK || tree.Size(got) > tree.Size(out.Tree) || tree.Depth(got) > tree.Depth(out.Tree) || lemmaCount(got) > lemmaCount(out.Tree) {
			t.Fatal("trim", e, f)
		}
		again, _ := Trim(q, got)
		once, _ := Splits(q, got)
		if !tree.Equal(again, got) || !tree.Equal(once, got) || !tree.Equal(Lemmas(got), got) {
			t.Fatal("not trimmed")
		}
		if len(got.Kids) > 0 {
			divided++
			continue
		}
		if x, e := Trim(q, split(api.Decision{Kind: api.DecOn, Index: 2}, got, got)); e != api.OK || !tree.Equal(x, got) {
			t.Fatal("useless split", e)
		}
		useless := got
		useless.Lemmas = slices.Clone(got.Lemmas)
		for _, m := range out.Tree.Lemmas {
			// The lemmas of the root of the search that use no other lemma are derived here, too.
			if !slices.ContainsFunc(m.Proof, func(x api.Mult) bool { return x.Row.Lo > 0 || x.Row.Hi > 0 }) {
				useless.Lemmas = append(useless.Lemmas, m)
				added++
			}
		}
		if x, e := Trim(q, useless); e != api.OK || !tree.Equal(x, got) {
			t.Fatal("useless lemmas", e)
		}
	}
	if divided == 0 || added == 0 {
		t.Error(divided, added)
	}
}

package checker

import (
	"math/rand"
	"slices"
	"testing"

	"relucert/api"
	"relucert/claim"
	"relucert/derive"
	"relucert/graph"
	"relucert/linear"
	"relucert/phase"
	"relucert/rational"
	"relucert/region"
	"relucert/rows"
	"relucert/search"
	"relucert/testkit"
	"relucert/tree"
	"relucert/verify"
)

var (
	frac = testkit.Frac
	form = testkit.Form
)

func mult(kind, index, lo, hi int) api.Mult {
	return api.Mult{Row: api.Row{Kind: kind, Index: index, Lo: lo, Hi: hi}, Coef: rational.Of(1)}
}

func query(goal string) api.Query {
	return api.Query{Graph: api.Graph{Inputs: 1, Units: []api.Affine{form("x0")}, Outputs: []api.Affine{form("x1")}}, Region: api.Region{Lo: []api.Rat{rational.Of(-1)}, Hi: []api.Rat{rational.Of(1)}}, Goal: form(goal)}
}

func leaf(l ...api.Mult) api.Node { return api.Node{Proof: l} }

func split(d api.Decision, a, b api.Node) api.Node {
	return api.Node{Split: d, Kids: []api.Node{a, b}}
}

func example() api.Node {
	return split(api.Decision{Kind: api.DecOn}, leaf(mult(api.RowHi, 0, 0, 0), mult(api.RowOnEq, 0, 0, 0)), leaf(mult(api.RowOffEq, 0, 0, 0)))
}

func TestExamples(t *testing.T) {
	for i, c := range []struct {
		goal string
		n    api.Node
	}{{"x1", leaf(mult(api.RowZero, 0, 0, 0))}, {"x1 - x0", leaf(mult(api.RowAbove, 0, 0, 0))}, {"1 - x1", example()}, {"2 - x1", example()}, {"3", leaf()}} {
		if path, e := Tree(query(c.goal), c.n); e != api.OK || len(path) != 0 {
			t.Error(i, path, e)
		}
	}
}

func TestWrongNodes(t *testing.T) {
	off := api.Decision{Kind: api.DecOff}
	far := api.Decision{Kind: api.DecAbove, At: rational.Of(2)}
	two := mult(api.RowHi, 0, 0, 0)
	two.Coef = rational.Of(2)
	wide := mult(api.RowZero, 0, 0, 0)
	wide.Coef = api.Rat{Num: api.Nat{2}, Den: api.Nat{2}}
	minus := mult(api.RowZero, 0, 0, 0)
	minus.Coef = rational.Of(-1)
	refuted := api.Node{Empty: true, Proof: []api.Mult{mult(api.RowHi, 0, 0, 0), mult(api.RowPath, 0, 0, 0)}}
	good := api.Lemma{Upper: true, Value: rational.Of(1), Proof: []api.Mult{mult(api.RowHi, 0, 0, 0)}}
	bad := good
	bad.Value = frac(1, 2)
	for i, c := range []struct {
		goal string
		n    api.Node
		path int // the length of the path of the first wrong node, or -1
	}{
		{"1 - x1", split(api.Decision{Kind: api.DecOn}, example().Kids[0], leaf(two)), 1}, {"1/2 - x1", example(), 1}, {"x1", leaf(wide), 0}, {"x1", leaf(minus), 0}, {"x1 - 1", leaf(mult(api.RowZero, 0, 0, 0)), 0},
		{"x1", leaf(mult(api.RowZero, 0, 0, 0), mult(api.RowLo, 0, 0, 0)), 0}, {"2*x1", leaf(mult(api.RowZero, 0, 0, 0), mult(api.RowZero, 0, 0, 0)), 0}, {"x1", leaf(mult(api.RowZero, 1, 0, 0)), 0}, {"x1", leaf(mult(api.RowZero, 0, 1, 0)), 0},
		{"-1", split(far, refuted, leaf()), 1}, {"0", split(far, refuted, leaf()), -1}, {"0", split(far, leaf(), refuted), 1}, {"1", split(api.Decision{Kind: api.DecOn, Index: 1}, leaf(), leaf()), 0}, {"1", split(api.Decision{Kind: api.DecAbove, At: wide.Coef}, leaf(), leaf()), 0},
		{"1", split(api.Decision{Kind: api.DecOn, At: rational.Of(1)}, leaf(), leaf()), 0}, {"1", split(off, split(off, leaf(), leaf()), leaf()), -1}, {"1", api.Node{Empty: true}, 0},
		{"1 - x0", api.Node{Lemmas: []api.Lemma{good}, Proof: []api.Mult{mult(api.RowUpper, 0, 0, 1)}}, -1}, {"1 - x0", api.Node{Lemmas: []api.Lemma{bad}, Proof: []api.Mult{mult(api.RowUpper, 0, 0, 1)}}, 0}, {"1 - x0", api.Node{Lemmas: []api.Lemma{good}, Proof: []api.Mult{mult(api.RowUpper, 0, 0, 2)}}, 0},
		{"1 - x0", api.Node{Lemmas: []api.Lemma{{Upper: true, Value: rational.Of(1), Proof: []api.Mult{mult(api.RowUpper, 0, 0, 1)}}}, Proof: []api.Mult{mult(api.RowUpper, 0, 0, 1)}}, 0},
	} {
		path, e := Tree(query(c.goal), c.n)
		if (e == api.OK) != (c.path < 0) || e != api.OK && (e != api.ErrProof || len(path) != c.path) {
			t.Error(i, path, e)
		}
	}
	path, _ := Tree(query("1/2 - x1"), split(off, leaf(mult(api.RowOffEq, 0, 0, 0)), leaf()))
	if len(path) != 1 || path[0].Kind != api.DecOn {
		t.Error(path)
	}
}

func TestArguments(t *testing.T) {
	for i, c := range []struct {
		q api.Query
		n api.Node
	}{{query("x9"), leaf()}, {api.Query{}, leaf()}, {query("1"), api.Node{Split: api.Decision{Kind: 1}}}, {query("1"), api.Node{Kids: make([]api.Node, 2)}}, {query("1"), api.Node{Split: api.Decision{Kind: 1}, Kids: make([]api.Node, 1)}}} {
		if path, e := Tree(c.q, c.n); e != api.ErrArg || len(path) != 0 {
			t.Error(i, e)
		}
	}
	deep := leaf()
	for range 2049 {
		deep = split(api.Decision{Kind: api.DecAbove}, leaf(), deep)
	}
	if _, e := Tree(query("1"), deep); e != api.ErrArg {
		t.Error(e)
	}
	if _, e := Tree(query("1"), deep.Kids[1]); e != api.OK {
		t.Error(e)
	}
	g, r := query("1").Graph, query("1").Region
	c, _, _ := claim.Parse("y0 >= 0; y0 >= -1")
	trees := []api.Node{leaf(mult(api.RowZero, 0, 0, 0)), leaf(mult(api.RowZero, 0, 0, 0))}
	for i, x := range []struct {
		g     api.Graph
		r     api.Region
		c     api.Claim
		trees []api.Node
		goal  int
		e     api.Errno
	}{
		{g, r, c, trees, 0, api.OK}, {api.Graph{}, r, c, trees, 0, api.ErrArg}, {g, api.Region{}, c, trees, 0, api.ErrArg}, {g, r, api.Claim{}, trees, 0, api.ErrArg}, {g, r, c, trees[:1], 0, api.ErrMismatch},
		{g, r, c, []api.Node{trees[0], leaf()}, 1, api.ErrProof}, {g, r, c, []api.Node{trees[0], {Split: api.Decision{Kind: 1}}}, 1, api.ErrArg}, {g, r, c, []api.Node{leaf(), leaf()}, 0, api.ErrProof},
	} {
		if k, e := Claim(x.g, x.r, x.c, api.Cert{Trees: x.trees}); k != x.goal || e != x.e {
			t.Error(i, k, e)
		}
	}
}

// mutate changes one thing somewhere in a tree.
func mutate(r *rand.Rand, n api.Node) api.Node {
	n.Lemmas, n.Proof, n.Kids = slices.Clone(n.Lemmas), slices.Clone(n.Proof), slices.Clone(n.Kids)
	change := func(l []api.Mult) []api.Mult {
		l = slices.Clone(l)
		if len(l) == 0 {
			return append(l, mult(1+r.Intn(13), r.Intn(4), r.Intn(3), r.Intn(3)))
		}
		i := r.Intn(len(l))
		switch r.Intn(6) {
		case 0:
			l[i].Coef = rational.Add(l[i].Coef, frac(r.Intn(5)-2, 3))
		case 1:
			l[i].Row.Kind = 1 + r.Intn(13)
		case 2:
			l[i].Row.Index = r.Intn(4)
		case 3:
			l[i].Row.Lo = r.Intn(9)
		case 4:
			l[i].Row.Hi = r.Intn(9)
		case 5:
			l = slices.Delete(l, i, i+1)
		}
		return l
	}
	switch {
	case len(n.Kids) == 2 && r.Intn(3) > 0:
		i := r.Intn(2)
		n.Kids[i] = mutate(r, n.Kids[i])
	case len(n.Lemmas) > 0 && r.Intn(2) == 0:
		i := r.Intn(len(n.Lemmas))
		if r.Intn(2) == 0 {
			n.Lemmas[i].Value = rational.Add(n.Lemmas[i].Value, frac(r.Intn(5)-2, 4))
		} else {
			n.Lemmas[i].Proof = change(n.Lemmas[i].Proof)
		}
	case len(n.Kids) == 2:
		n.Kids[0], n.Kids[1] = n.Kids[1], n.Kids[0]
	default:
		n.Proof = change(n.Proof)
	}
	return n
}

// slow checks a tree by layers 22 and 45, which share nothing with this package.
func slow(q api.Query, n api.Node) ([]api.Decision, bool) {
	for path, k := range tree.Walk(n) {
		s, _ := tree.Scope(q, n, path)
		ok := derive.Scope(s)
		switch {
		case len(k.Kids) > 0:
			ok = ok && rows.Fits(q, k.Split)
		case k.Empty:
			ok = ok && derive.Refutes(s, k.Proof)
		default:
			ok = ok && derive.Proves(s, q.Goal, k.Proof)
		}
		if !ok {
			return path, false
		}
	}
	return nil, true
}

// TestRandom checks trees of searches and changed ones, and compares what is accepted with the values at inputs.
func TestRandom(t *testing.T) {
	r := rand.New(rand.NewSource(1))
	draw := func(vars int) api.Affine {
		var terms []api.Term
		for range 3 {
			terms = append(terms, api.Term{Var: r.Intn(vars), Coef: frac(r.Intn(7)-3, 1+r.Intn(2))})
		}
		f, _ := linear.Make(terms, frac(r.Intn(5)-2, 2))
		return f
	}
	accepted, refused := 0, 0
	for range 150 {
		q := api.Query{Graph: api.Graph{Inputs: 2, Outputs: []api.Affine{form("x0")}}, Region: api.Region{Lo: []api.Rat{rational.Of(-1), {}}, Hi: []api.Rat{rational.Of(1), rational.Of(2)}}}
		for j := range 4 {
			q.Graph.Units = append(q.Graph.Units, draw(2+j))
		}
		q.Goal = draw(6)
		o := api.Options{Domain: r.Intn(3), Rule: r.Intn(4), Learn: r.Intn(2) == 0, Nodes: 1000}
		least, _, e := verify.Least(q, o)
		if e != api.OK {
			t.Fatal(e)
		}
		q.Goal = linear.Sub(q.Goal, api.Affine{Const: least})
		out, e := search.Search(q, o)
		if e != api.OK || out.Status != api.Proved {
			t.Fatal(out.Status, e)
		}
		if path, e := Tree(q, out.Tree); e != api.OK {
			t.Fatal(path, e)
		}
		weaker := q
		weaker.Goal = linear.Add(q.Goal, form("1/7"))
		weaker.Region.Rows = []api.Affine{form("x0 + x1")}
		if _, e := Tree(weaker, out.Tree); e != api.OK {
			t.Fatal("weaker question", e)
		}
		stronger := q
		stronger.Goal = linear.Sub(q.Goal, form("1/1000"))
		if _, e := Tree(stronger, out.Tree); e != api.ErrProof {
			t.Fatal("stronger question", e)
		}
		for range 20 {
			n := mutate(r, out.Tree)
			want, ok := slow(q, n)
			path, e := Tree(q, n)
			if (e == api.OK) != ok || e != api.OK && !slices.EqualFunc(path, want, func(a, b api.Decision) bool { return phase.Text(a) == phase.Text(b) }) {
				t.Fatal("differs from the definition", e, path, want)
			}
			if e != api.OK {
				refused++
				continue
			}
			accepted++
		}
		for i := range 25 {
			x := []api.Rat{frac(i/5-2, 2), frac(i%5, 2)}
			values, _ := graph.Values(q.Graph, x)
			if v, _ := linear.Eval(q.Goal, values); region.Contains(q.Region, x) && rational.Sign(v) < 0 {
				t.Fatal("unsound", x)
			}
		}
	}
	if accepted < 20 || refused < 500 {
		t.Error(accepted, refused)
	}
}

// TestBelow checks subtrees in their places.
func TestBelow(t *testing.T) {
	q, n := query("1 - x1"), example()
	on, off := []api.Decision{{Kind: api.DecOn}}, []api.Decision{{Kind: api.DecOff}}
	if !Below(q, on, nil, n.Kids[0]) || !Below(q, off, nil, n.Kids[1]) || Below(q, off, nil, n.Kids[0]) || Below(q, nil, nil, n.Kids[1]) || !Below(q, nil, nil, n) {
		t.Error("path")
	}
	lemma := api.Lemma{Upper: true, Value: rational.Of(1)}
	if !Below(query("1 - x0"), nil, []api.Lemma{lemma}, leaf(mult(api.RowUpper, 0, 0, 1))) {
		t.Error("lemmas")
	}
}

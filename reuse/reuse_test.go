package reuse

import (
	"math/rand"
	"slices"
	"testing"

	"relucert/api"
	"relucert/checker"
	"relucert/graph"
	"relucert/linear"
	"relucert/rational"
	"relucert/search"
	"relucert/testkit"
	"relucert/tree"
)

var (
	frac = testkit.Frac
	form = testkit.Form
)

func mult(kind, index, lo, hi int) api.Mult {
	return api.Mult{Row: api.Row{Kind: kind, Index: index, Lo: lo, Hi: hi}, Coef: rational.Of(1)}
}

func query(goal string) api.Query {
	return api.Query{Graph: api.Graph{Inputs: 1, Units: []api.Affine{form("x0 - 2")}, Outputs: []api.Affine{form("x1")}}, Region: api.Region{Lo: []api.Rat{{}}, Hi: []api.Rat{rational.Of(1)}}, Goal: form(goal)}
}

func TestDiff(t *testing.T) {
	g := api.Graph{Inputs: 1, Units: []api.Affine{form("x0"), form("x0 - x1"), form("x1 + x2")}, Outputs: []api.Affine{form("x1"), form("x2 + x3")}}
	h, _ := graph.Scale(g, 1, rational.Of(2))
	units, outputs, e := Diff(g, h)
	if e != api.OK || !slices.Equal(units, []int{1, 2}) || !slices.Equal(outputs, []int{1}) {
		t.Error(units, outputs, e)
	}
	if units, outputs, e := Diff(g, g); e != api.OK || len(units)+len(outputs) != 0 {
		t.Error(units, outputs, e)
	}
	more, _ := graph.Halve(g, 0)
	for i, c := range []struct {
		a, b api.Graph
		e    api.Errno
	}{{api.Graph{}, g, api.ErrArg}, {g, api.Graph{}, api.ErrArg}, {g, more, api.ErrMismatch}, {g, api.Graph{Inputs: 2, Units: g.Units[:0], Outputs: g.Outputs[:1]}, api.ErrMismatch}, {api.Graph{Inputs: 1, Outputs: []api.Affine{form("x0")}}, api.Graph{Inputs: 2, Outputs: []api.Affine{form("x0")}}, api.ErrMismatch}} {
		if units, outputs, e := Diff(c.a, c.b); e != c.e || len(units)+len(outputs) != 0 {
			t.Error(i, e)
		}
	}
}

func TestEntries(t *testing.T) {
	leaf := api.Node{Proof: []api.Mult{mult(api.RowLo, 0, 0, 0)}}
	for goal, want := range map[string]int{"x0": 1, "x0 + 1": 1, "x0 - 1": 0} {
		l, e := Entries(query(goal), leaf)
		if e != api.OK || len(l) != want || want == 1 && !tree.Equal(l[0].Leaf, leaf) {
			t.Error(goal, l, e)
		}
	}
	lemma := func(at int, l ...api.Mult) api.Lemma {
		return api.Lemma{Upper: true, Value: rational.Of(at), Proof: l}
	}
	n := api.Node{Lemmas: []api.Lemma{lemma(5), lemma(-1, mult(api.RowHi, 0, 0, 0)), lemma(7), lemma(0, mult(api.RowUpper, 0, 0, 2))}, Proof: []api.Mult{mult(api.RowOffEq, 0, 0, 4)}}
	l, e := Entries(query("-x1"), n)
	if e != api.OK || len(l) != 1 || len(l[0].Leaf.Lemmas) != 2 || l[0].Leaf.Lemmas[1].Proof[0].Row.Hi != 1 || l[0].Leaf.Proof[0].Row.Hi != 2 {
		t.Fatal(l, e)
	}
	if n.Proof[0].Row.Hi != 4 {
		t.Error("modified")
	}
	if r := reduce(api.Entry{Leaf: api.Node{Lemmas: make([]api.Lemma, 2), Proof: []api.Mult{mult(1, 0, 9, -3), mult(1, 0, 2, 3)}}}); len(r.Leaf.Lemmas) != 1 || r.Leaf.Proof[0].Row.Lo != 9 || r.Leaf.Proof[0].Row.Hi != -3 || r.Leaf.Proof[1].Row.Lo != 1 || r.Leaf.Proof[1].Row.Hi != 3 {
		t.Error(r)
	}
	for i, c := range []struct {
		q   api.Query
		old api.Node
		o   api.Options
	}{{query("x9"), leaf, api.Options{Nodes: 1}}, {query("x0"), api.Node{Split: api.Decision{Kind: 1}}, api.Options{Nodes: 1}}, {query("x0"), leaf, api.Options{}}} {
		out, n, e := Reuse(c.q, c.old, c.o)
		if e != api.ErrArg || n != 0 || out.Status != 0 {
			t.Error(i, e)
		}
		if l, e := Entries(c.q, c.old); i < 2 && (e != api.ErrArg || len(l) != 0) {
			t.Error(i, e)
		}
	}
}

// uses reports whether a leaf has a row or a lemma of a unit.
func uses(leaf api.Node, unit int) bool {
	row := func(m api.Mult) bool { return m.Row.Kind >= api.RowZero && m.Row.Index == unit }
	return slices.ContainsFunc(leaf.Proof, row) || slices.ContainsFunc(leaf.Lemmas, func(m api.Lemma) bool {
		return m.Unit == unit || slices.ContainsFunc(m.Proof, row)
	})
}

// TestRandom reuses trees for changed networks and changed goals.
func TestRandom(t *testing.T) {
	r := rand.New(rand.NewSource(1))
	draw := func(vars int) api.Affine {
		var terms []api.Term
		for range 3 {
			terms = append(terms, api.Term{Var: r.Intn(vars), Coef: frac(r.Intn(7)-3, 1+r.Intn(2))})
		}
		f, _ := linear.Make(terms, frac(r.Intn(5)-2, 2))
		return f
	}
	local := 0
	for range 120 {
		q := api.Query{Graph: api.Graph{Inputs: 2, Outputs: []api.Affine{form("x0")}}, Region: api.Region{Lo: []api.Rat{rational.Of(-1), {}}, Hi: []api.Rat{rational.Of(1), rational.Of(1)}}}
		for j := range 4 {
			q.Graph.Units = append(q.Graph.Units, draw(2+j))
		}
		q.Goal = linear.Add(draw(6), form("1"))
		o := api.Options{Domain: r.Intn(3), Rule: r.Intn(4), Learn: r.Intn(2) == 0, Nodes: 511}
		out, _ := search.Search(q, o)
		if out.Status != api.Proved {
			continue
		}
		all, _ := Entries(q, out.Tree)
		same, n, e := Reuse(q, out.Tree, api.Options{Nodes: 1})
		if e != api.OK || len(all) != tree.Leaves(out.Tree) || n != len(all) || same.Status != api.Proved || same.Nodes != 0 {
			t.Fatal("nothing changed", len(all), n, same.Status, e)
		}
		weaker := q
		weaker.Goal = linear.Add(q.Goal, form("1/3"))
		if l, _ := Entries(weaker, out.Tree); len(l) != len(all) {
			t.Fatal("weaker goal", len(l), len(all))
		}
		unit := r.Intn(4)
		changed := q
		changed.Graph.Units = slices.Clone(q.Graph.Units)
		changed.Graph.Units[unit] = linear.Add(q.Graph.Units[unit], api.Affine{Const: frac(r.Intn(5)-2, 4)})
		kept, _ := Entries(changed, out.Tree)
		for _, e := range all {
			if uses(e.Leaf, unit) {
				continue
			}
			local++
			if !slices.ContainsFunc(kept, func(k api.Entry) bool { return tree.Equal(k.Leaf, e.Leaf) && len(k.Path) == len(e.Path) }) {
				t.Fatal("locality")
			}
		}
		got, n, e := Reuse(changed, out.Tree, o)
		want, _ := search.Search(changed, o)
		if e != api.OK || n != len(kept) || got.Status != want.Status {
			t.Fatal("changed", got.Status, want.Status, e)
		}
		if got.Status == api.Proved {
			if _, e := checker.Tree(changed, got.Tree); e != api.OK {
				t.Fatal("tree", e)
			}
		}
	}
	if local == 0 {
		t.Error("no local leaves")
	}
}

package search

import (
	"math/rand"
	"slices"
	"testing"

	"relucert/api"
	"relucert/derive"
	"relucert/graph"
	"relucert/linear"
	"relucert/pattern"
	"relucert/phase"
	"relucert/rational"
	"relucert/region"
	"relucert/rows"
	"relucert/simplex"
	"relucert/testkit"
)

var (
	frac = testkit.Frac
	form = testkit.Form
)

func example(goal string) api.Query {
	return api.Query{Graph: api.Graph{Inputs: 1, Units: []api.Affine{form("x0"), form("-x0")}, Outputs: []api.Affine{form("x1")}}, Region: api.Region{Lo: []api.Rat{rational.Of(-1)}, Hi: []api.Rat{rational.Of(1)}}, Goal: form(goal)}
}

// proves follows the definition of layer 42.
func proves(s api.Scope, n api.Node) bool {
	s.Lemmas = slices.Concat(s.Lemmas, n.Lemmas)
	if !derive.Scope(s) {
		return false
	}
	if len(n.Kids) == 0 {
		if n.Split.Kind != 0 || n.Split.Index != 0 || len(n.Split.At.Num) > 0 {
			return false
		}
		return n.Empty && derive.Refutes(s, n.Proof) || !n.Empty && derive.Proves(s, s.Query.Goal, n.Proof)
	}
	if len(n.Kids) != 2 || n.Empty || len(n.Proof) > 0 || !rows.Fits(s.Query, n.Split) {
		return false
	}
	for i, d := range []api.Decision{n.Split, phase.Opposite(n.Split)} {
		path, e := phase.Extend(s.Path, d)
		if e != api.OK || !proves(api.Scope{Query: s.Query, Path: path, Lemmas: s.Lemmas}, n.Kids[i]) {
			return false
		}
	}
	return true
}

func check(t *testing.T, q api.Query, o api.Options, out api.Outcome, e api.Errno, least int) {
	t.Helper()
	if e != api.OK || out.Nodes < least || out.Nodes > o.Nodes {
		t.Fatal(out.Status, out.Nodes, e)
	}
	switch out.Status {
	case api.Proved:
		if !proves(api.Scope{Query: q}, out.Tree) || len(out.Input) > 0 {
			t.Fatal("tree", o)
		}
	case api.Broken:
		values, _ := graph.Values(q.Graph, out.Input)
		v, _ := linear.Eval(q.Goal, values)
		if !region.Contains(q.Region, out.Input) || rational.Sign(v) >= 0 || len(out.Tree.Kids)+len(out.Tree.Proof) > 0 {
			t.Fatal("input", out.Input)
		}
	case api.Exhausted:
		if len(out.Input)+len(out.Tree.Kids)+len(out.Tree.Proof) > 0 {
			t.Fatal("exhausted")
		}
	default:
		t.Fatal(out.Status)
	}
}

func TestExample(t *testing.T) {
	for _, c := range []struct {
		goal   string
		status int
	}{{"1 - x1 - x2", api.Proved}, {"1/2 - x1 - x2", api.Broken}, {"x1 + x2 - x0", api.Proved}, {"x1 - x0 - x2", api.Proved}, {"-1/1000 + x1 + x2", api.Broken}, {"1", api.Proved}, {"-1", api.Broken}} {
		for domain := range 3 {
			for rule := range 4 {
				q, o := example(c.goal), api.Options{Domain: domain, Rule: rule, Cuts: rule%2 == 0, Learn: domain != 1, Bits: rule * 3, Nodes: 127}
				out, e := Search(q, o)
				check(t, q, o, out, e, 1)
				if out.Status != c.status {
					t.Error(c.goal, out.Status)
				}
			}
		}
	}
	out, e := Search(example("1 - x1 - x2"), api.Options{Nodes: 1})
	check(t, example("1 - x1 - x2"), api.Options{Nodes: 1}, out, e, 1)
	empty := example("-1")
	empty.Region.Rows = []api.Affine{form("x0 - 2")}
	if out, e := Search(empty, api.Options{Nodes: 9}); e != api.OK || out.Status != api.Proved || !out.Tree.Empty {
		t.Error(out, e)
	}
}

func TestErrors(t *testing.T) {
	good := api.Options{Nodes: 1}
	bad := example("x9")
	for i, change := range []func(o *api.Options){
		func(o *api.Options) { o.Domain = 3 }, func(o *api.Options) { o.Domain = -1 }, func(o *api.Options) { o.Rule = 4 }, func(o *api.Options) { o.Rule = -1 }, func(o *api.Options) { o.Bits = -1 }, func(o *api.Options) { o.Bits = 4097 },
		func(o *api.Options) { o.Nodes = 0 }, func(o *api.Options) { o.Nodes = api.MaxNodes + 1 }, func(o *api.Options) { o.Workers = -1 }, func(o *api.Options) { o.Workers = 17 },
	} {
		o := good
		change(&o)
		a, e := Search(example("1"), o)
		b, f := Parallel(example("1"), o, nil)
		c, g := Resume(example("1"), o, nil)
		if e != api.ErrArg || f != api.ErrArg || g != api.ErrArg || a.Status+b.Status+c.Status != 0 {
			t.Error(i, e, f, g)
		}
	}
	if out, e := Search(bad, good); e != api.ErrArg || out.Status != 0 {
		t.Error(e)
	}
}

func random(r *rand.Rand, units int) api.Query {
	draw := func(vars int) api.Affine {
		var terms []api.Term
		for range 3 {
			terms = append(terms, api.Term{Var: r.Intn(vars), Coef: frac(r.Intn(7)-3, 1+r.Intn(2))})
		}
		f, _ := linear.Make(terms, frac(r.Intn(5)-2, 2))
		return f
	}
	q := api.Query{Graph: api.Graph{Inputs: 2, Outputs: []api.Affine{form("x0")}}, Region: api.Region{Lo: []api.Rat{rational.Of(-1), {}}, Hi: []api.Rat{rational.Of(1), rational.Of(2)}}}
	if r.Intn(3) == 0 {
		q.Region.Rows = []api.Affine{draw(2)}
	}
	for j := range units {
		q.Graph.Units = append(q.Graph.Units, draw(2+j))
	}
	q.Goal = draw(2 + units)
	return q
}

// least returns the least value of the goal by solving a program for each pattern, and whether there is an input.
func least(q api.Query) (api.Rat, bool) {
	var best api.Rat
	found := false
	for p := range pattern.All(len(q.Graph.Units)) {
		prog := api.Program{Vars: q.Graph.Inputs, Rows: slices.Clone(q.Region.Rows)}
		for i := range q.Region.Lo {
			x := api.Affine{Terms: []api.Term{{Var: i, Coef: rational.Of(1)}}}
			prog.Rows = append(prog.Rows, linear.Sub(x, api.Affine{Const: q.Region.Lo[i]}), linear.Sub(api.Affine{Const: q.Region.Hi[i]}, x))
		}
		piece, _ := pattern.Piece(q.Graph, p)
		prog.Rows = append(prog.Rows, piece...)
		_, outs, _ := pattern.Forms(api.Graph{Inputs: q.Graph.Inputs, Units: q.Graph.Units, Outputs: []api.Affine{q.Goal}}, p)
		prog.Objective = outs[0]
		if s, _ := simplex.Solve(prog); s.Status == api.LPOptimal && (!found || rational.Cmp(s.Value, best) < 0) {
			best, found = s.Value, true
		}
	}
	return best, found
}

// TestRandom compares all kinds of searches with the least value, for goals at and beside it.
func TestRandom(t *testing.T) {
	r := rand.New(rand.NewSource(1))
	for range 120 {
		units := r.Intn(6)
		q := random(r, units)
		if best, ok := least(q); ok {
			q.Goal = linear.Sub(q.Goal, api.Affine{Const: rational.Add(best, frac(r.Intn(3)-1, 50))})
		}
		best, ok := least(q)
		want := api.Proved
		if ok && rational.Sign(best) < 0 {
			want = api.Broken
		}
		o := api.Options{Domain: r.Intn(3), Rule: r.Intn(4), Cuts: r.Intn(2) == 0, Learn: r.Intn(2) == 0, Bits: r.Intn(2) * 6, Nodes: 1<<(units+5) - 1, Workers: r.Intn(5)}
		out, e := Search(q, o)
		check(t, q, o, out, e, 1)
		script := make([]uint8, r.Intn(60))
		r.Read(script)
		par, e := Parallel(q, o, script)
		check(t, q, o, par, e, 1)
		if out.Status != want || par.Status != want {
			t.Fatal(out.Status, par.Status, want, o)
		}
		few := o
		few.Nodes = 1 + r.Intn(3)
		short, e := Search(q, few)
		check(t, q, few, short, e, 1)
		if short.Status != want && short.Status != api.Exhausted {
			t.Fatal("short", short.Status)
		}
		resume(t, r, q, o, out, want)
	}
}

// resume resumes with all entries, some of them, and wrong ones.
func resume(t *testing.T, r *rand.Rand, q api.Query, o api.Options, out api.Outcome, want int) {
	t.Helper()
	entries := Entries(out.Tree)
	if out.Status == api.Proved {
		one := o
		one.Nodes = 1
		all, e := Resume(q, one, entries)
		check(t, q, one, all, e, 0)
		if all.Status != api.Proved || all.Nodes != 0 {
			t.Fatal("resume", all.Status, all.Nodes)
		}
		part, e := Resume(q, o, slices.DeleteFunc(slices.Clone(entries), func(api.Entry) bool { return r.Intn(3) == 0 }))
		check(t, q, o, part, e, 0)
		if part.Status != want {
			t.Fatal("part", part.Status)
		}
	}
	wrong := slices.Clone(entries)
	for i := range wrong {
		if r.Intn(2) == 0 {
			wrong[i].Leaf.Empty = !wrong[i].Leaf.Empty
		} else {
			wrong[i].Path = append(slices.Clone(wrong[i].Path), api.Decision{Kind: api.DecAbove, At: frac(r.Intn(9), 4)})
		}
	}
	some, e := Resume(q, o, wrong)
	check(t, q, o, some, e, 0)
	if some.Status != want {
		t.Fatal("wrong entries", some.Status)
	}
}

func TestEntries(t *testing.T) {
	n := api.Node{Lemmas: []api.Lemma{{Unit: 1}}, Split: api.Decision{Kind: api.DecOn}, Kids: []api.Node{
		{Lemmas: []api.Lemma{{Unit: 2}}, Empty: true},
		{Split: api.Decision{Kind: api.DecAbove}, Kids: []api.Node{{}, {Lemmas: []api.Lemma{{Unit: 3}}}}},
	}}
	l := Entries(n)
	if len(l) != 3 || len(l[0].Path) != 1 || len(l[0].Leaf.Lemmas) != 2 || l[0].Leaf.Lemmas[1].Unit != 2 || !l[0].Leaf.Empty || len(l[1].Path) != 2 || l[1].Path[0].Kind != api.DecOff || l[1].Path[1].Kind != api.DecAbove || l[2].Path[1].Kind != api.DecBelow || len(l[2].Leaf.Lemmas) != 2 {
		t.Error(l)
	}
	if l := Entries(api.Node{}); len(l) != 1 || len(l[0].Path) != 0 {
		t.Error(l)
	}
}

// TestDeepEntries resumes with a tree that divides the inputs more often than a search does.
func TestDeepEntries(t *testing.T) {
	q := example("x1 + x2")
	leaf := api.Node{Proof: []api.Mult{{Row: api.Row{Kind: api.RowZero}, Coef: rational.Of(1)}, {Row: api.Row{Kind: api.RowZero, Index: 1}, Coef: rational.Of(1)}}}
	tree := leaf
	for i := range 9 {
		tree = api.Node{Split: api.Decision{Kind: api.DecAbove, At: frac(i, 10)}, Kids: []api.Node{leaf, tree}}
	}
	o := api.Options{Nodes: 1}
	out, e := Resume(q, o, Entries(tree))
	check(t, q, o, out, e, 0)
	if out.Status != api.Proved || out.Nodes != 0 {
		t.Error(out.Status, out.Nodes)
	}
	o.Nodes = 127
	out, e = Resume(q, o, Entries(tree)[3:])
	check(t, q, o, out, e, 0)
	if out.Status != api.Proved {
		t.Error(out.Status)
	}
}

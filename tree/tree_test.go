package tree

import (
	"slices"
	"testing"

	"relucert/api"
	"relucert/phase"
	"relucert/rational"
)

func split(unit int, kids ...api.Node) api.Node {
	return api.Node{Split: api.Decision{Kind: api.DecOn, Index: unit}, Kids: kids}
}

func lemma(unit int) []api.Lemma { return []api.Lemma{{Unit: unit}} }

func sample() api.Node {
	above := api.Node{Split: api.Decision{Kind: api.DecAbove, Index: 1, At: rational.Of(2)}, Lemmas: lemma(7), Kids: []api.Node{{Empty: true}, {Lemmas: lemma(8)}}}
	n := split(0, api.Node{Proof: []api.Mult{{Row: api.Row{Kind: 1}, Coef: rational.Of(1)}}}, above)
	n.Lemmas = lemma(6)
	return n
}

func chain(depth int) api.Node {
	var n api.Node
	for range depth {
		n = split(0, api.Node{}, n)
	}
	return n
}

// full has 2^depth leaves.
func full(depth int) api.Node {
	var n api.Node
	for range depth {
		n = split(0, n, n)
	}
	return n
}

func TestValid(t *testing.T) {
	x := api.Node{}
	for i, c := range []struct {
		n                   api.Node
		ok                  bool
		size, depth, leaves int
	}{
		{x, true, 1, 0, 1}, {split(0, x, x), true, 3, 1, 2}, {sample(), true, 5, 2, 3}, {split(0, x), false, 0, 0, 0}, {split(0, x, x, x), false, 0, 0, 0}, {split(0), false, 0, 0, 0}, {api.Node{Kids: []api.Node{x, x}}, false, 0, 0, 0},
		{api.Node{Kids: []api.Node{x, x}, Split: api.Decision{Kind: 5}}, false, 0, 0, 0}, {api.Node{Kids: []api.Node{x, x}, Split: api.Decision{Kind: 1}, Empty: true}, false, 0, 0, 0}, {api.Node{Kids: []api.Node{x, x}, Split: api.Decision{Kind: 1}, Proof: make([]api.Mult, 1)}, false, 0, 0, 0},
		{api.Node{Split: api.Decision{Index: 1}}, false, 0, 0, 0}, {api.Node{Split: api.Decision{At: rational.Of(1)}}, false, 0, 0, 0}, {split(0, x, split(0, x)), false, 0, 0, 0},
		{chain(2048), true, 4097, 2048, 2049}, {chain(2049), false, 0, 0, 0}, {full(15), true, 65535, 15, 32768}, {full(16), false, 0, 0, 0}, {full(60), false, 0, 0, 0}, {split(0, full(15), x), false, 0, 0, 0},
	} {
		if Valid(c.n) != c.ok || Size(c.n) != c.size || Depth(c.n) != c.depth || Leaves(c.n) != c.leaves {
			t.Error(i, Valid(c.n), Size(c.n), Depth(c.n), Leaves(c.n))
		}
	}
}

func TestEqual(t *testing.T) {
	if !Equal(sample(), sample()) || !Equal(api.Node{Kids: []api.Node{}}, api.Node{}) {
		t.Error("equal")
	}
	for i, change := range []func(n *api.Node){
		func(n *api.Node) { n.Lemmas[0].Upper = true }, func(n *api.Node) { n.Kids[0].Proof[0].Coef.Den = api.Nat{1} }, func(n *api.Node) { n.Kids[1].Kids[0].Empty = false }, func(n *api.Node) { n.Kids[1].Split.At = rational.Of(3) },
		func(n *api.Node) { n.Kids[1].Kids = n.Kids[1].Kids[:1] }, func(n *api.Node) { n.Kids[0].Proof[0].Row.Lo = 1 }, func(n *api.Node) { n.Lemmas[0].Proof = make([]api.Mult, 1) }, func(n *api.Node) { n.Lemmas[0].Value.Neg = true },
	} {
		n := sample()
		change(&n)
		if Equal(n, sample()) || Equal(sample(), n) {
			t.Error(i)
		}
	}
}

func TestWalk(t *testing.T) {
	n := sample()
	var paths []string
	for path, k := range Walk(n) {
		text := ""
		for _, d := range path {
			text += phase.Text(d) + ";"
		}
		paths = append(paths, text)
		found, ok := At(n, path)
		again, e := Replace(n, path, k)
		if !ok || !Equal(found, k) || e != api.OK || !Equal(again, n) || len(path) > Depth(n) {
			t.Error(text)
		}
		if len(path) > 0 {
			path[0] = api.Decision{}
		}
	}
	if Size(n) != 2*Leaves(n)-1 || Size(n) != len(paths) {
		t.Error("counting")
	}
	want := []string{"", "u0 on;", "u0 off;", "u0 off;x1 >= 2;", "u0 off;x1 <= 2;"}
	if !slices.Equal(paths, want) {
		t.Error(paths)
	}
	count := 0
	for range Walk(n) {
		if count++; count == 3 {
			break
		}
	}
	for range Walk(split(0)) {
		t.Error("not valid")
	}
}

func TestReplace(t *testing.T) {
	n := sample()
	off := api.Decision{Kind: api.DecOff}
	below := api.Decision{Kind: api.DecBelow, Index: 1, At: rational.Of(2)}
	with := split(5, api.Node{Lemmas: lemma(1)}, api.Node{})
	got, e := Replace(n, []api.Decision{off, below}, with)
	at, ok := At(got, []api.Decision{off, below})
	if e != api.OK || !ok || !Equal(at, with) || !Equal(n, sample()) || Size(got) != 7 {
		t.Error(e)
	}
	rest, _ := At(got, []api.Decision{{Kind: api.DecOn}})
	if !Equal(rest, n.Kids[0]) {
		t.Error("another node changed")
	}
	wide := below
	wide.At = api.Rat{Num: api.Nat{4}, Den: api.Nat{2}}
	for i, c := range []struct {
		n    api.Node
		path []api.Decision
		with api.Node
		e    api.Errno
	}{
		{split(0), nil, n, api.ErrArg}, {n, nil, split(0), api.ErrArg}, {n, []api.Decision{below}, with, api.ErrNone}, {n, []api.Decision{off, wide}, with, api.ErrNone}, {n, []api.Decision{off, below, off}, with, api.ErrNone},
		{n, []api.Decision{off}, chain(2048), api.ErrLimit}, {n, nil, chain(2048), api.OK}, {full(15), []api.Decision{off}, full(15), api.ErrLimit},
	} {
		got, e := Replace(c.n, c.path, c.with)
		if e != c.e || e != api.OK && !Equal(got, api.Node{}) {
			t.Error(i, e)
		}
	}
	if k, ok := At(split(0), nil); ok || !Equal(k, api.Node{}) {
		t.Error("at")
	}
}

func TestScope(t *testing.T) {
	n := sample()
	q := api.Query{Graph: api.Graph{Inputs: 3}}
	path := []api.Decision{{Kind: api.DecOff}, {Kind: api.DecBelow, Index: 1, At: rational.Of(2)}}
	s, ok := Scope(q, n, path)
	if !ok || s.Query.Graph.Inputs != 3 || len(s.Path) != 2 || len(s.Lemmas) != 3 || s.Lemmas[0].Unit != 6 || s.Lemmas[1].Unit != 7 || s.Lemmas[2].Unit != 8 {
		t.Error(s, ok)
	}
	if s, ok := Scope(q, n, path[1:]); ok || s.Query.Graph.Inputs != 0 {
		t.Error(s)
	}
}

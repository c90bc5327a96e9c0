package derive

import (
	"math/rand"
	"slices"
	"testing"

	"relucert/api"
	"relucert/graph"
	"relucert/linear"
	"relucert/rational"
	"relucert/rows"
	"relucert/testkit"
)

var (
	frac = testkit.Frac
	form = testkit.Form
)

func mult(kind, lo, hi int, c api.Rat) api.Mult {
	return api.Mult{Row: api.Row{Kind: kind, Lo: lo, Hi: hi}, Coef: c}
}

func sample() api.Scope {
	return api.Scope{Query: api.Query{Graph: api.Graph{Inputs: 1, Units: []api.Affine{form("x0 - 1")}, Outputs: []api.Affine{form("x1")}}, Region: api.Region{Lo: []api.Rat{{}}, Hi: []api.Rat{rational.Of(3)}}, Goal: form("x1")}}
}

var one = api.Rat{Num: api.Nat{1}}

func TestExample(t *testing.T) {
	s := sample()
	lower := api.Lemma{Value: rational.Of(-1), Proof: []api.Mult{mult(api.RowLo, 0, 0, one)}}
	upper := api.Lemma{Upper: true, Value: rational.Of(2), Proof: []api.Mult{mult(api.RowHi, 0, 0, one)}}
	if !Proves(s, form("x0"), lower.Proof) || !Lemma(s, lower) || !Lemma(s, upper) {
		t.Error("lemmas")
	}
	lower.Value = api.Rat{}
	if Lemma(s, lower) {
		t.Error("lemma 0")
	}
	s.Path = []api.Decision{{Kind: api.DecAbove, At: rational.Of(4)}}
	proof := []api.Mult{mult(api.RowHi, 0, 0, one), mult(api.RowPath, 0, 0, one)}
	if f, e := Sum(s, proof); e != api.OK || linear.Text(f) != "-1" || !Refutes(s, proof) || !Proves(s, form("-1"), proof) || !Proves(s, form("0"), proof) || Proves(s, form("-2"), proof) {
		t.Error(f, e)
	}
	if Refutes(s, proof[:1]) || Refutes(s, nil) {
		t.Error("refutes")
	}
}

func TestCanonical(t *testing.T) {
	two := rational.Of(2)
	for i, c := range []struct {
		l  []api.Mult
		ok bool
	}{
		{nil, true}, {[]api.Mult{mult(1, 0, 0, one), mult(2, 0, 0, one)}, true}, {[]api.Mult{mult(2, 0, 0, one), mult(1, 0, 0, one)}, false}, {[]api.Mult{mult(1, 0, 0, one), mult(1, 0, 0, one)}, false},
		{[]api.Mult{mult(1, 0, 0, api.Rat{})}, false}, {[]api.Mult{mult(1, 0, 0, rational.Of(-1))}, false}, {[]api.Mult{mult(1, 0, 0, api.Rat{Num: api.Nat{2}, Den: api.Nat{2}})}, false},
		{[]api.Mult{mult(1, 1, 2, one), mult(1, 2, 1, one)}, true}, {[]api.Mult{mult(1, 1, 2, one), mult(1, 1, 1, one)}, false}, {[]api.Mult{{Row: api.Row{Kind: 1, Index: 1}, Coef: one}, mult(1, 9, 9, one)}, false},
	} {
		if Canonical(c.l) != c.ok {
			t.Error(i)
		}
	}
	l, e := Collect([]api.Mult{mult(3, 0, 0, api.Rat{Num: api.Nat{2}, Den: api.Nat{2}}), mult(1, 0, 0, api.Rat{}), mult(3, 0, 0, one), mult(2, 0, 0, one)})
	if e != api.OK || !Canonical(l) || len(l) != 2 || l[0].Row.Kind != 2 || rational.Cmp(l[1].Coef, two) != 0 {
		t.Error(l, e)
	}
	if l, e := Collect([]api.Mult{mult(1, 0, 0, one), mult(1, 0, 0, rational.Of(-1))}); e != api.ErrArg || len(l) != 0 {
		t.Error(l, e)
	}
}

func TestSumErrors(t *testing.T) {
	s := sample()
	if f, e := Sum(s, []api.Mult{mult(1, 0, 0, api.Rat{})}); e != api.ErrArg || len(f.Terms) != 0 {
		t.Error(e)
	}
	if f, e := Sum(s, []api.Mult{mult(api.RowLo, 0, 0, one), mult(api.RowOn, 0, 0, one)}); e != api.ErrProof || len(f.Terms) != 0 {
		t.Error(e)
	}
	if f, e := Sum(api.Scope{}, nil); e != api.OK || len(f.Terms) != 0 || len(f.Const.Num) != 0 {
		t.Error(e)
	}
	if _, e := Sum(api.Scope{}, []api.Mult{mult(1, 0, 0, one)}); e != api.ErrProof {
		t.Error(e)
	}
	if Proves(s, api.Affine{Const: api.Rat{Neg: true}}, nil) || !Proves(s, form("5"), nil) || Proves(s, form("x0"), nil) || Proves(s, form("-1"), nil) {
		t.Error("proves")
	}
}

func TestLemmasAndScopes(t *testing.T) {
	s := sample()
	lower := api.Lemma{Value: rational.Of(-1), Proof: []api.Mult{mult(api.RowLo, 0, 0, one)}}
	upper := api.Lemma{Upper: true, Value: rational.Of(2), Proof: []api.Mult{mult(api.RowHi, 0, 0, one)}}
	weaker := api.Lemma{Upper: true, Value: rational.Of(5), Proof: []api.Mult{mult(api.RowUpper, 0, 2, one)}}
	for i, c := range []struct {
		path   []api.Decision
		lemmas []api.Lemma
		ok     bool
	}{
		{nil, []api.Lemma{lower, upper, weaker}, true}, {nil, []api.Lemma{lower, weaker, upper}, false}, {nil, []api.Lemma{upper, weaker}, false}, {[]api.Decision{{Kind: api.DecOn}}, nil, true},
		{[]api.Decision{{Kind: api.DecOn, Index: 1}}, nil, false}, {nil, []api.Lemma{{Unit: 1, Value: rational.Of(-1)}}, false}, {nil, []api.Lemma{{Unit: -1}}, false},
		{nil, []api.Lemma{{Value: api.Rat{Neg: true}}}, false}, {nil, []api.Lemma{{Value: rational.Of(-1), Upper: true, Proof: lower.Proof}}, false},
	} {
		s.Path, s.Lemmas = c.path, c.lemmas
		if Scope(s) != c.ok {
			t.Error(i)
		}
	}
	if Scope(api.Scope{}) || Lemma(api.Scope{}, lower) {
		t.Error("query")
	}
}

// TestSoundness draws derivations in random derived scopes and compares with inputs.
func TestSoundness(t *testing.T) {
	r := rand.New(rand.NewSource(1))
	members := 0
	for range 1500 {
		s := sample()
		s.Query.Graph.Units = append(s.Query.Graph.Units, form("x1 - 1/2*x0"))
		for range r.Intn(3) {
			s.Path = append(s.Path, []api.Decision{{Kind: 1 + r.Intn(2), Index: r.Intn(2)}, {Kind: 3 + r.Intn(2), At: frac(r.Intn(7), 2)}}[r.Intn(2)])
		}
		s.Lemmas = []api.Lemma{{Value: rational.Of(-1), Proof: []api.Mult{mult(api.RowLo, 0, 0, one)}}, {Upper: true, Value: rational.Of(2), Proof: []api.Mult{mult(api.RowHi, 0, 0, one)}}}
		if !Scope(s) {
			t.Fatal("scope")
		}
		var l []api.Mult
		for _, row := range rows.All(s) {
			if r.Intn(3) == 0 {
				l = append(l, api.Mult{Row: row, Coef: frac(1+r.Intn(4), 2)})
			}
		}
		l, _ = Collect(l)
		f, e := Sum(s, l)
		if e != api.OK || !Proves(s, f, l) {
			t.Fatal(e)
		}
		later := s
		later.Path = append(slices.Clone(s.Path), api.Decision{Kind: api.DecAbove})
		later.Lemmas = append(slices.Clone(s.Lemmas), s.Lemmas[0])
		if !Proves(later, f, l) || Refutes(s, l) != Refutes(later, l) {
			t.Fatal("monotony")
		}
		twice, _ := Collect(append(slices.Clone(l), l...))
		if !Proves(s, linear.Add(f, f), twice) {
			t.Fatal("combination")
		}
		for i := range twice {
			twice[i].Coef = rational.Mul(twice[i].Coef, frac(1, 6))
		}
		if third := linear.Scale(f, frac(1, 3)); !Proves(s, third, twice) || Refutes(s, twice) != Refutes(s, l) {
			t.Fatal("multiple")
		}
		for i := range 13 {
			x := []api.Rat{frac(i, 4)}
			if !rows.Member(s, x) {
				continue
			}
			members++
			values, _ := graph.Values(s.Query.Graph, x)
			if v, _ := linear.Eval(f, values); rational.Sign(v) < 0 || Refutes(s, l) {
				t.Fatal("sound", linear.Text(f), x)
			}
		}
	}
	if members == 0 {
		t.Error("no members")
	}
}

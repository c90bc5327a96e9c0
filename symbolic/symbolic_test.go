package symbolic

import (
	"math/rand"
	"testing"

	"relucert/api"
	"relucert/derive"
	"relucert/domain"
	"relucert/graph"
	"relucert/linear"
	"relucert/rational"
	"relucert/rows"
	"relucert/testkit"
)

var (
	frac = testkit.Frac
	form = testkit.Form
)

var _ domain.Domain = Domain{}

func example() api.Scope {
	s := api.Scope{Query: api.Query{Graph: api.Graph{Inputs: 1, Units: []api.Affine{form("x0"), form("-x0")}, Outputs: []api.Affine{form("x1")}}, Region: api.Region{Lo: []api.Rat{rational.Of(-1)}, Hi: []api.Rat{rational.Of(1)}}, Goal: form("x1")}}
	s, _ = domain.Run(Domain{}, s, 0)
	return s
}

func TestExample(t *testing.T) {
	s := example()
	if len(s.Lemmas) != 4 {
		t.Fatal(s.Lemmas)
	}
	check := func(f, want string, bound int) {
		t.Helper()
		g, l, ok := Back(s, form(f))
		sum, e := derive.Sum(s, l)
		if !ok || e != api.OK || linear.Text(g) != want || !linear.Equal(linear.Sub(form(f), g), sum) {
			t.Error(linear.Text(g), ok, e)
		}
		b, l, ok := Domain{}.Lower(s, form(f))
		sum, e = derive.Sum(s, l)
		if !ok || e != api.OK || rational.Cmp(b, rational.Of(bound)) != 0 || !linear.Equal(linear.Sub(form(f), api.Affine{Const: b}), sum) {
			t.Error(b, ok, e)
		}
	}
	check("x1 - x2", "1/2*x0 - 1/2", -1)
	s.Path = []api.Decision{{Kind: api.DecOn}}
	check("x1 - x2", "3/2*x0 - 1/2", -2)
	check("-x1", "-x0", -1)
	s.Path = []api.Decision{{Kind: api.DecOff}}
	check("x1 - x2", "1/2*x0 - 1/2", -1)
	check("-x1 + x0", "x0", -1)
	s.Path = []api.Decision{{Kind: api.DecOff}, {Kind: api.DecOn}}
	check("-x1", "-x0", -1)
}

func TestMissing(t *testing.T) {
	s := example()
	s.Lemmas = s.Lemmas[:1]
	if g, l, ok := Back(s, form("-x1")); ok || len(g.Terms)+len(l) != 0 {
		t.Error("upper line without lemmas")
	}
	if b, l, ok := (Domain{}).Lower(s, form("-x2")); ok || len(b.Num)+len(l) != 0 {
		t.Error("bound without lemmas")
	}
	if g, _, ok := Back(s, form("x1 + x2")); !ok || linear.Text(g) != "0" {
		t.Error("slope 0 without lemmas")
	}
	if _, _, ok := Back(s, form("x3")); ok {
		t.Error("form")
	}
	s.Query.Region.Lo = nil
	if _, _, ok := (Domain{}).Lower(s, form("x0")); ok {
		t.Error("query")
	}
}

func TestGet(t *testing.T) {
	for n, name := range []string{"box", "symbolic", "box+symbolic"} {
		if d, ok := Get(n); !ok || d.Name() != name {
			t.Error(n)
		}
	}
	for _, n := range []int{-1, 3} {
		d, ok := Get(n)
		in, also := In(n)
		if ok || d != nil || also || in != nil {
			t.Error(n)
		}
	}
}

func random(r *rand.Rand, vars int) api.Affine {
	var terms []api.Term
	for range 3 {
		terms = append(terms, api.Term{Var: r.Intn(vars), Coef: frac(r.Intn(7)-3, 1+r.Intn(2))})
	}
	f, _ := linear.Make(terms, frac(r.Intn(5)-2, 2))
	return f
}

// TestBounds compares all domains with the values at inputs.
func TestBounds(t *testing.T) {
	r := rand.New(rand.NewSource(1))
	decided := 0
	for range 300 {
		q := api.Query{Graph: api.Graph{Inputs: 2, Outputs: []api.Affine{form("x0")}}, Region: api.Region{Lo: []api.Rat{rational.Of(-1), {}}, Hi: []api.Rat{rational.Of(1), rational.Of(2)}}, Goal: form("x0")}
		for j := range 3 {
			q.Graph.Units = append(q.Graph.Units, random(r, 2+j))
		}
		s := api.Scope{Query: q}
		for range r.Intn(4) {
			s.Path = append(s.Path, api.Decision{Kind: 1 + r.Intn(2), Index: r.Intn(3)})
		}
		number := r.Intn(3)
		d, _ := Get(number)
		got, e := domain.Run(d, s, r.Intn(2)*4)
		if e != api.OK || !derive.Scope(got) || len(got.Lemmas) < 6 {
			t.Fatal(e, len(got.Lemmas))
		}
		f := random(r, 5)
		var bounds []api.Rat
		for n := range 3 {
			d, _ := Get(n)
			b, l, ok := d.Lower(got, f)
			sum, e := derive.Sum(got, l)
			if !ok || e != api.OK || !linear.Equal(linear.Sub(f, api.Affine{Const: b}), sum) {
				t.Fatal("derivation", n, ok, e)
			}
			bounds = append(bounds, b)
		}
		in, _ := In(number)
		v := rows.NewView(got)
		if b, l, ok := in(v, f); !ok || rational.Cmp(b, bounds[number]) != 0 || !derive.ProvesIn(v, linear.Sub(f, api.Affine{Const: b}), l) {
			t.Fatal("view", b, bounds)
		}
		if rational.Cmp(bounds[2], rational.Max(bounds[0], bounds[1])) != 0 {
			t.Fatal("both")
		}
		open := false
		for j := range 3 {
			open = open || rows.Phase(got, j) == api.PhaseOpen
		}
		g, _, _ := Back(got, f)
		for i := range 25 {
			x := []api.Rat{frac(i/5-2, 2), frac(i%5, 2)}
			if !rows.Member(s, x) {
				continue
			}
			values, _ := graph.Values(q.Graph, x)
			v, _ := linear.Eval(f, values)
			if rational.Cmp(v, bounds[2]) < 0 {
				t.Fatal("bound", linear.Text(f), bounds, x)
			}
			if w, _ := linear.Eval(g, x); !open && rational.Cmp(v, w) != 0 {
				t.Fatal("form", linear.Text(g))
			}
			decided++
		}
	}
	if decided == 0 {
		t.Error("no members")
	}
}

package rows

import (
	"math/rand"
	"slices"
	"testing"

	"relucert/api"
	"relucert/graph"
	"relucert/linear"
	"relucert/rational"
	"relucert/testkit"
)

var (
	frac = testkit.Frac
	form = testkit.Form
)

// sample has one input from 0 to 3 and the unit x0 - 1.
func sample() api.Scope {
	q := api.Query{Graph: api.Graph{Inputs: 1, Units: []api.Affine{form("x0 - 1")}, Outputs: []api.Affine{form("x1 - x0")}}, Region: api.Region{Lo: []api.Rat{{}}, Hi: []api.Rat{rational.Of(3)}, Rows: []api.Affine{form("x0 + 1")}}, Goal: form("x1")}
	return api.Scope{Query: q, Lemmas: []api.Lemma{{Value: rational.Of(-1)}, {Upper: true, Value: rational.Of(2)}}}
}

func TestForms(t *testing.T) {
	s := sample()
	s.Path = []api.Decision{{Kind: api.DecAbove, At: frac(1, 2)}, {Kind: api.DecBelow, At: rational.Of(2)}, {Kind: api.DecOn}, {Kind: api.DecAbove, Index: 7}}
	s.Lemmas = append(s.Lemmas, api.Lemma{Value: frac(1, 2)}, api.Lemma{Upper: true}, api.Lemma{Unit: 4, Value: rational.Of(9)})
	for _, c := range []struct {
		r    api.Row
		want string
	}{
		{api.Row{Kind: api.RowLo}, "x0"}, {api.Row{Kind: api.RowHi}, "-x0 + 3"}, {api.Row{Kind: api.RowPoly}, "x0 + 1"}, {api.Row{Kind: api.RowPath}, "x0 - 1/2"}, {api.Row{Kind: api.RowPath, Index: 1}, "-x0 + 2"},
		{api.Row{Kind: api.RowZero}, "x1"}, {api.Row{Kind: api.RowAbove}, "-x0 + x1 + 1"}, {api.Row{Kind: api.RowOn}, "x0 - 1"}, {api.Row{Kind: api.RowOnEq}, "x0 - x1 - 1"}, {api.Row{Kind: api.RowOn, Lo: 3}, "x0 - 1"},
		{api.Row{Kind: api.RowOff, Hi: 4}, "-x0 + 1"}, {api.Row{Kind: api.RowOffEq, Hi: 4}, "-x1"}, {api.Row{Kind: api.RowLower, Lo: 1}, "x0"}, {api.Row{Kind: api.RowUpper, Hi: 2}, "-x0 + 3"}, {api.Row{Kind: api.RowTri, Lo: 1, Hi: 2}, "2*x0 - 3*x1"},
	} {
		f, ok := Form(s, c.r)
		if !ok || linear.Text(f) != c.want {
			t.Error(c, linear.Text(f), ok)
		}
		bad := s
		bad.Query.Region.Hi = nil
		if f, ok := Form(bad, c.r); ok || len(f.Terms) != 0 {
			t.Error("query", c)
		}
	}
	for _, r := range []api.Row{
		{}, {Kind: 14}, {Kind: -1}, {Kind: api.RowLo, Index: 1}, {Kind: api.RowLo, Index: -1}, {Kind: api.RowHi, Lo: 1}, {Kind: api.RowHi, Index: 1}, {Kind: api.RowPoly, Index: 1}, {Kind: api.RowPoly, Hi: 1}, {Kind: api.RowPath, Index: 2}, {Kind: api.RowPath, Index: 3}, {Kind: api.RowPath, Index: 4}, {Kind: api.RowPath, Index: -1},
		{Kind: api.RowZero, Index: 1}, {Kind: api.RowZero, Lo: 1}, {Kind: api.RowAbove, Index: -1}, {Kind: api.RowOn, Lo: 1}, {Kind: api.RowOn, Lo: 2}, {Kind: api.RowOn, Lo: 9}, {Kind: api.RowOn, Lo: -1}, {Kind: api.RowOn, Hi: 2}, {Kind: api.RowOff}, {Kind: api.RowOffEq, Hi: 2}, {Kind: api.RowOff, Hi: 1},
		{Kind: api.RowLower}, {Kind: api.RowLower, Lo: 2}, {Kind: api.RowLower, Lo: 5}, {Kind: api.RowLower, Lo: 1, Hi: 2}, {Kind: api.RowUpper, Hi: 1}, {Kind: api.RowTri, Lo: 1}, {Kind: api.RowTri, Lo: 3, Hi: 2}, {Kind: api.RowTri, Lo: 1, Hi: 4},
	} {
		if f, ok := Form(s, r); ok || len(f.Terms) != 0 {
			t.Error(r)
		}
	}
}

func TestPhases(t *testing.T) {
	s := sample()
	if Phase(s, 0) != api.PhaseOpen || Phase(s, 1) != api.PhaseOpen || Phase(s, -1) != api.PhaseOpen {
		t.Error("open")
	}
	if lo, hi := Best(s, 0); lo != 1 || hi != 2 {
		t.Error(lo, hi)
	}
	s.Lemmas = append(s.Lemmas, api.Lemma{Value: api.Rat{}}, api.Lemma{Value: api.Rat{}}, api.Lemma{Upper: true, Value: rational.Of(3)}, api.Lemma{Unit: 1, Value: rational.Of(5)})
	if lo, hi := Best(s, 0); lo != 3 || hi != 2 || Phase(s, 0) != api.PhaseOn {
		t.Error(lo, hi)
	}
	if lo, hi := Best(s, 2); lo != 0 || hi != 0 {
		t.Error(lo, hi)
	}
	s.Lemmas = append(s.Lemmas, api.Lemma{Upper: true})
	if Phase(s, 0) != api.PhaseOn {
		t.Error("both")
	}
	s.Lemmas = nil
	s.Path = []api.Decision{{Kind: api.DecOff}}
	if Phase(s, 0) != api.PhaseOff {
		t.Error("off")
	}
	s.Path[0].At = rational.Of(1)
	if Phase(s, 0) != api.PhaseOpen {
		t.Error("a decision that does not fit")
	}
	s.Query.Goal = form("x9")
	if Phase(s, 0) != api.PhaseOpen || len(All(s)) != 0 {
		t.Error("query")
	}
}

func TestAll(t *testing.T) {
	s := sample()
	s.Path = []api.Decision{{Kind: api.DecOn, Index: 5}, {Kind: api.DecBelow, At: rational.Of(2)}}
	lo, hi, poly, path := api.Row{Kind: api.RowLo}, api.Row{Kind: api.RowHi}, api.Row{Kind: api.RowPoly}, api.Row{Kind: api.RowPath, Index: 1}
	zero, above := api.Row{Kind: api.RowZero}, api.Row{Kind: api.RowAbove}
	check := func(want ...api.Row) {
		t.Helper()
		if got := All(s); !slices.Equal(got, append([]api.Row{lo, hi, poly, path}, want...)) {
			t.Error(got)
		}
	}
	check(zero, above, api.Row{Kind: api.RowLower, Lo: 1}, api.Row{Kind: api.RowUpper, Hi: 2}, api.Row{Kind: api.RowTri, Lo: 1, Hi: 2})
	all := s.Lemmas
	s.Lemmas = all[:1]
	check(zero, above, api.Row{Kind: api.RowLower, Lo: 1})
	s.Lemmas = append(slices.Clone(all), api.Lemma{Value: rational.Of(1)})
	check(above, api.Row{Kind: api.RowOn, Lo: 3}, api.Row{Kind: api.RowOnEq, Lo: 3})
	s.Path[0] = api.Decision{Kind: api.DecOff}
	check(above, api.Row{Kind: api.RowOn, Lo: 3}, api.Row{Kind: api.RowOnEq, Lo: 3}, zero, api.Row{Kind: api.RowOff}, api.Row{Kind: api.RowOffEq})
	s.Path[0] = api.Decision{Kind: api.DecOn}
	check(above, api.Row{Kind: api.RowOn}, api.Row{Kind: api.RowOnEq})
	s.Path[0] = api.Decision{}
	s.Lemmas = append(slices.Clone(all), api.Lemma{Upper: true})
	check(zero, api.Row{Kind: api.RowOff, Hi: 3}, api.Row{Kind: api.RowOffEq, Hi: 3})
}

func TestDecisions(t *testing.T) {
	q := sample().Query
	x := []api.Rat{{Num: api.Nat{4}, Den: api.Nat{4}}}
	for _, c := range []struct {
		d           api.Decision
		fits, holds bool
	}{
		{api.Decision{Kind: api.DecOn}, true, true}, {api.Decision{Kind: api.DecOff}, true, true}, {api.Decision{Kind: api.DecAbove, At: rational.Of(1)}, true, true}, {api.Decision{Kind: api.DecAbove, At: rational.Of(2)}, true, false},
		{api.Decision{Kind: api.DecBelow, At: frac(1, 2)}, true, false}, {api.Decision{Kind: api.DecBelow, At: rational.Of(1)}, true, true}, {api.Decision{Kind: api.DecOn, Index: 1}, false, false}, {api.Decision{Kind: api.DecOn, At: api.Rat{Den: api.Nat{1}}}, false, false},
		{api.Decision{Kind: api.DecAbove, Index: 1}, false, false}, {api.Decision{Kind: api.DecAbove, At: api.Rat{Neg: true}}, false, false}, {api.Decision{}, false, false}, {api.Decision{Kind: api.DecBelow, Index: -1}, false, false},
	} {
		if Fits(q, c.d) != c.fits || Holds(q, c.d, x) != c.holds || Holds(q, c.d, nil) {
			t.Error(c)
		}
		if Member(api.Scope{Query: q, Path: []api.Decision{c.d}}, x) != c.holds || Member(api.Scope{Query: q, Path: []api.Decision{c.d}}, []api.Rat{rational.Of(4)}) {
			t.Error("member", c)
		}
		if bad := (api.Query{Graph: q.Graph}); Fits(bad, c.d) || Holds(bad, c.d, x) || Member(api.Scope{Query: bad}, x) {
			t.Error("query", c)
		}
	}
	if Valid(api.Query{}) || !Valid(q) {
		t.Error("valid")
	}
	if f, e := Goal(q.Graph, form("2*x0 + 1")); e != api.OK || linear.Text(f) != "-2*x0 + 2*x1 + 1" {
		t.Error(f, e)
	}
	for _, c := range []struct {
		g api.Graph
		f string
	}{{q.Graph, "x1"}, {api.Graph{}, "1"}} {
		if f, e := Goal(c.g, form(c.f)); e != api.ErrArg || len(f.Terms) != 0 || len(f.Const.Num) != 0 {
			t.Error(e)
		}
	}
}

// TestSoundnessAndExactness draws points: those of an input satisfy all rows, and whatever satisfies all rows computes the decided units.
func TestSoundnessAndExactness(t *testing.T) {
	r := rand.New(rand.NewSource(1))
	exact := 0
	for range 2000 {
		q := api.Query{Graph: api.Graph{Inputs: 1, Units: []api.Affine{form("x0 - 1"), form("x1 - x0 + 1/2")}, Outputs: []api.Affine{form("x2")}}, Region: api.Region{Lo: []api.Rat{{}}, Hi: []api.Rat{rational.Of(3)}}}
		x := []api.Rat{frac(r.Intn(7), 2)}
		values, _ := graph.Values(q.Graph, x)
		pre, _ := graph.Pre(q.Graph, x)
		s := api.Scope{Query: q}
		for range r.Intn(4) {
			d := []api.Decision{{Kind: 1 + r.Intn(2), Index: r.Intn(2)}, {Kind: 3 + r.Intn(2), At: frac(r.Intn(7), 2)}}[r.Intn(2)]
			if Holds(q, d, x) {
				s.Path = append(s.Path, d)
			}
		}
		for range r.Intn(4) {
			m := api.Lemma{Unit: r.Intn(2), Upper: r.Intn(2) == 0}
			m.Value = rational.Add(pre[m.Unit], frac(r.Intn(3), 2))
			if !m.Upper {
				m.Value = rational.Sub(pre[m.Unit], frac(r.Intn(3), 2))
			}
			s.Lemmas = append(s.Lemmas, m)
		}
		point := []api.Rat{frac(r.Intn(7), 2), frac(r.Intn(5), 2), frac(r.Intn(5), 2)}
		holds := true
		all := All(s)
		for i, row := range all {
			f, ok := Form(s, row)
			if !ok || slices.Contains(all[:i], row) {
				t.Fatal("list", row)
			}
			if v, _ := linear.Eval(f, values); rational.Sign(v) < 0 {
				t.Fatal("sound", row, s.Path)
			}
			v, _ := linear.Eval(f, point)
			holds = holds && rational.Sign(v) >= 0
		}
		if !holds {
			continue
		}
		for j, p := range q.Graph.Units {
			v, _ := linear.Eval(p, point)
			if Phase(s, j) == api.PhaseOpen {
				continue
			}
			exact++
			if rational.Cmp(point[1+j], rational.Max(api.Rat{}, v)) != 0 {
				t.Fatal("exact", j, point)
			}
		}
	}
	if exact < 20 {
		t.Error(exact)
	}
}

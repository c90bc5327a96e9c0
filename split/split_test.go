package split

import (
	"math/rand"
	"slices"
	"testing"

	"relucert/api"
	"relucert/phase"
	"relucert/rational"
	"relucert/rows"
	"relucert/testkit"
)

var (
	frac = testkit.Frac
	form = testkit.Form
)

// sample has two open units with the gaps 1/2 and 1.
func sample() api.Scope {
	lemma := func(unit, at int) api.Lemma {
		return api.Lemma{Unit: unit, Upper: at > 0, Value: rational.Of(at)}
	}
	q := api.Query{Graph: api.Graph{Inputs: 2, Units: []api.Affine{form("x0 - 1"), form("x0 + x2 - 2"), form("x1")}, Outputs: []api.Affine{form("x0")}}, Region: api.Region{Lo: []api.Rat{{}, {}}, Hi: []api.Rat{rational.Of(3), rational.Of(3)}}, Goal: form("x0")}
	return api.Scope{Query: q, Lemmas: []api.Lemma{lemma(0, -1), lemma(0, 1), lemma(1, -2), lemma(1, 2), lemma(2, 0)}}
}

func TestRules(t *testing.T) {
	s := sample()
	if got := slices.Collect(Open(s)); !slices.Equal(got, []int{0, 1}) {
		t.Error(got)
	}
	on := func(unit int) api.Decision { return api.Decision{Kind: api.DecOn, Index: unit} }
	missing := s
	missing.Lemmas = s.Lemmas[:3]
	narrow := s
	narrow.Path = []api.Decision{{Kind: api.DecBelow, At: rational.Of(2)}}
	bisected := s
	bisected.Path = slices.Repeat([]api.Decision{{Kind: api.DecBelow, At: rational.Of(3)}}, 4)
	empty := s
	empty.Path = []api.Decision{{Kind: api.DecBelow, Index: 1, At: rational.Of(-1)}}
	point := s
	point.Query.Region.Hi = point.Query.Region.Lo
	rats := func(x ...int) []api.Rat {
		var l []api.Rat
		for _, n := range x {
			l = append(l, rational.Of(n))
		}
		return l
	}
	for i, c := range []struct {
		s     api.Scope
		point []api.Rat
		rule  int
		want  api.Decision
	}{
		{s, nil, First, on(0)}, {s, nil, Widest, on(1)}, {s, nil, Bisect, api.Decision{Kind: api.DecAbove, At: frac(3, 2)}}, {missing, nil, Widest, on(0)}, {narrow, nil, Bisect, api.Decision{Kind: api.DecAbove, Index: 1, At: frac(3, 2)}},
		{bisected, nil, Bisect, on(0)}, {empty, nil, Bisect, on(0)}, {point, nil, Bisect, on(0)}, {s, nil, Furthest, on(1)}, {s, rats(1, 0, 0, 0, 0), Furthest, on(0)}, {s, rats(1, 0, 1, 1, 0), Furthest, on(0)}, {s, rats(1, 0, 1, 2, 9), Furthest, on(1)}, {s, rats(3, 0, 0, 0, 0), Furthest, on(0)},
	} {
		d, e := Choose(c.s, c.point, c.rule)
		if e != api.OK || d.Kind != c.want.Kind || d.Index != c.want.Index || rational.Cmp(d.At, c.want.At) != 0 || !rows.Fits(c.s.Query, d) {
			t.Error(i, d, e)
		}
	}
}

func TestErrors(t *testing.T) {
	s := sample()
	bad := s
	bad.Query.Goal = form("x9")
	closed := s
	closed.Path = []api.Decision{{Kind: api.DecOn}, {Kind: api.DecOff, Index: 1}}
	for i, c := range []struct {
		s    api.Scope
		rule int
		e    api.Errno
	}{{bad, 0, api.ErrArg}, {s, -1, api.ErrArg}, {s, 4, api.ErrArg}, {closed, 4, api.ErrArg}, {closed, 2, api.ErrNone}} {
		if d, e := Choose(c.s, nil, c.rule); e != c.e || d.Kind != 0 {
			t.Error(i, e)
		}
	}
	for range Open(bad) {
		t.Error("open")
	}
	for unit := range Open(s) {
		if unit != 0 {
			t.Error("left early")
		}
		break
	}
	if b, e := Box(bad); e != api.ErrArg || len(b) != 0 {
		t.Error(e)
	}
	s.Path = []api.Decision{{Kind: api.DecBelow, At: rational.Of(1)}, {Kind: api.DecAbove, Index: 9, At: rational.Of(2)}, {Kind: api.DecAbove, At: frac(1, 2)}}
	b, e := Box(s)
	if e != api.OK || rational.Cmp(b[0].Lo, frac(1, 2)) != 0 || rational.Cmp(b[0].Hi, rational.Of(1)) != 0 || rational.Cmp(b[1].Hi, rational.Of(3)) != 0 {
		t.Error(b, e)
	}
	s.Path = append(s.Path, api.Decision{Kind: api.DecAbove, At: rational.Of(2)})
	if b, e := Box(s); e != api.ErrNone || len(b) != 0 {
		t.Error(e)
	}
}

func TestKids(t *testing.T) {
	s := sample()
	s.Path = []api.Decision{{Kind: api.DecOn}}
	d := api.Decision{Kind: api.DecAbove, At: frac(1, 2)}
	a, b, e := Kids(s, d)
	if e != api.OK || phase.Text(a.Path[1]) != "x0 >= 1/2" || phase.Text(b.Path[1]) != "x0 <= 1/2" || len(a.Lemmas) != 5 || len(b.Path) != 2 || b.Query.Graph.Inputs != 2 {
		t.Error(a.Path, b.Path, e)
	}
	r := rand.New(rand.NewSource(1))
	for range 200 {
		x := []api.Rat{frac(r.Intn(13), 4), frac(r.Intn(13), 4)}
		if rows.Member(s, x) != (rows.Member(a, x) || rows.Member(b, x)) {
			t.Error(x)
		}
	}
	long := s
	long.Path = slices.Repeat([]api.Decision{d}, api.MaxDepth)
	for i, c := range []struct {
		s api.Scope
		d api.Decision
		e api.Errno
	}{
		{s, api.Decision{}, api.ErrArg}, {s, api.Decision{Kind: api.DecOn, Index: 3}, api.ErrArg}, {s, api.Decision{Kind: api.DecOff}, api.ErrState}, {long, d, api.ErrLimit}, {api.Scope{}, d, api.ErrArg},
		{api.Scope{Query: s.Query, Path: []api.Decision{{}}}, d, api.ErrArg},
	} {
		a, b, e := Kids(c.s, c.d)
		if e != c.e || len(a.Path)+len(b.Path)+a.Query.Graph.Inputs != 0 {
			t.Error(i, e)
		}
	}
}

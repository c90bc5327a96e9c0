package rows

import (
	"slices"
	"testing"

	"relucert/api"
	"relucert/rational"
)

// TestWith extends a view in two ways, which must not influence each other, and compares with views of the whole scopes.
func TestWith(t *testing.T) {
	s := sample()
	s.Path = []api.Decision{{Kind: api.DecAbove, At: frac(1, 2)}}
	v := NewView(s)
	on, below := api.Decision{Kind: api.DecOn}, api.Decision{Kind: api.DecBelow, At: rational.Of(2)}
	a, b := v.With(on), v.With(below)
	a.Add(api.Lemma{Upper: true, Value: rational.Of(1)})
	b.Add(api.Lemma{Upper: true})
	for i, c := range []struct {
		v *View
		d []api.Decision
		m []api.Lemma
	}{{v, nil, nil}, {a, []api.Decision{on}, []api.Lemma{{Upper: true, Value: rational.Of(1)}}}, {b, []api.Decision{below}, []api.Lemma{{Upper: true}}}} {
		whole := api.Scope{Query: s.Query, Path: append(slices.Clone(s.Path), c.d...), Lemmas: append(slices.Clone(s.Lemmas), c.m...)}
		if !slices.Equal(c.v.All(), All(whole)) || len(c.v.Scope().Lemmas) != len(whole.Lemmas) || c.v.Phase(0) != Phase(whole, 0) || !c.v.IsValid() {
			t.Error(i, c.v.All())
		}
	}
	if lo, hi := a.Best(0); lo != 1 || hi != 3 || rational.Cmp(b.Hi(0).At, rational.Of(2)) != 0 || rational.Cmp(v.Hi(0).At, rational.Of(3)) != 0 || rational.Cmp(v.Lo(0).At, frac(1, 2)) != 0 {
		t.Error(lo, hi)
	}
}

package lemmas

import (
	"testing"

	"relucert/api"
)

func row(lo, hi int) api.Mult { return api.Mult{Row: api.Row{Kind: api.RowTri, Lo: lo, Hi: hi}} }

func TestPrune(t *testing.T) {
	lemma := func(unit int, proof ...api.Mult) api.Lemma { return api.Lemma{Unit: unit, Proof: proof} }
	n := api.Node{
		Lemmas: []api.Lemma{lemma(0), lemma(1), lemma(2, row(2, 0)), lemma(3)},
		Split:  api.Decision{Kind: api.DecOn},
		Kids: []api.Node{
			{Lemmas: []api.Lemma{lemma(4), lemma(5, row(3, 0)), lemma(6, row(6, 5))}, Proof: []api.Mult{row(6, 9)}},
			{Lemmas: []api.Lemma{lemma(7)}, Proof: []api.Mult{row(4, 5)}, Empty: true},
		},
	}
	p := Prune(n)
	units := func(n api.Node) (out []int) {
		for _, m := range n.Lemmas {
			out = append(out, m.Unit)
		}
		return out
	}
	same := func(got []int, want ...int) {
		t.Helper()
		if len(got) != len(want) {
			t.Fatal(got, want)
		}
		for i := range got {
			if got[i] != want[i] {
				t.Fatal(got, want)
			}
		}
	}
	same(units(p), 1, 2, 3)
	same(units(p.Kids[0]), 5)
	same(units(p.Kids[1]), 7)
	if p.Lemmas[1].Proof[0].Row.Lo != 1 || p.Kids[0].Lemmas[0].Proof[0].Row.Lo != 2 || p.Kids[0].Proof[0].Row != row(4, 6).Row || p.Kids[1].Proof[0].Row != row(3, 4).Row || !p.Kids[1].Empty {
		t.Error(p)
	}
	if n.Kids[0].Proof[0].Row.Lo != 6 || len(n.Lemmas) != 4 {
		t.Error("modified")
	}
}

package propagate

import (
	"math/rand"
	"slices"
	"testing"

	"relucert/api"
	"relucert/clause"
)

func on(unit int) api.Literal { return api.Literal{Unit: unit, On: true} }

func off(unit int) api.Literal { return api.Literal{Unit: unit} }

func TestExample(t *testing.T) {
	clauses := []api.Clause{{off(0), on(1)}, {off(1), on(2)}}
	phases := []int{api.PhaseOn, 0, 0}
	if out, c, e := Fix(clauses, phases); e != api.OK || c != -1 || !slices.Equal(out, []int{1, 1, 1}) {
		t.Error(out, c, e)
	}
	if out, c, e := Fix(append(clauses, api.Clause{off(0), off(2)}), phases); e != api.OK || c != 0 || len(out) != 0 {
		t.Error(out, c, e)
	}
	if out, c, e := Fix([]api.Clause{{on(0)}, nil}, []int{0}); e != api.OK || c != 1 || len(out) != 0 {
		t.Error(out, c, e)
	}
	for i, x := range []struct {
		c      []api.Clause
		phases []int
	}{{[]api.Clause{{on(1)}}, []int{0}}, {[]api.Clause{{on(1), on(0)}}, []int{0, 0}}, {nil, []int{3}}, {nil, []int{-1}}} {
		if out, c, e := Fix(x.c, x.phases); e != api.ErrArg || c != 0 || len(out) != 0 {
			t.Error(i, e)
		}
	}
}

// slowClosure follows the definition; it returns the first violated clause, or -1.
func slowClosure(clauses []api.Clause, given []api.Literal) (map[api.Literal]bool, int) {
	set := map[api.Literal]bool{}
	for _, l := range given {
		set[l] = true
	}
	for changed := true; changed; {
		changed = false
		for _, c := range clauses {
			for i, l := range c {
				all := true
				for k, m := range c {
					all = all && (k == i || set[clause.Opposite(m)])
				}
				if all && !set[l] {
					set[l], changed = true, true
				}
			}
		}
	}
	for i, c := range clauses {
		if !slices.ContainsFunc(c, func(l api.Literal) bool { return !set[clause.Opposite(l)] }) {
			return set, i
		}
	}
	return set, -1
}

func violated(set map[api.Literal]bool, c api.Clause) bool {
	return !slices.ContainsFunc(c, func(l api.Literal) bool { return !set[clause.Opposite(l)] })
}

func draw(r *rand.Rand, units int) api.Clause {
	var l []api.Literal
	for range r.Intn(5) {
		l = append(l, api.Literal{Unit: r.Intn(units), On: r.Intn(2) == 0})
	}
	if len(l) == 0 && r.Intn(10) > 0 {
		l = []api.Literal{on(r.Intn(units)), off(r.Intn(units))}
	}
	c, ok := clause.Make(l)
	if !ok {
		return draw(r, units)
	}
	return c
}

func TestFix(t *testing.T) {
	r := rand.New(rand.NewSource(1))
	conflicts := 0
	for range 3000 {
		var list []api.Clause
		for range r.Intn(9) {
			list = append(list, draw(r, 6))
		}
		phases := make([]int, 6)
		var given []api.Literal
		for u := range phases {
			if phases[u] = r.Intn(6); phases[u] > 2 {
				phases[u] = 0
			} else if phases[u] > 0 {
				given = append(given, api.Literal{Unit: u, On: phases[u] == api.PhaseOn})
			}
		}
		set, want := slowClosure(list, given)
		out, c, e := Fix(list, phases)
		if e != api.OK || c != want {
			t.Fatal(list, phases, c, want)
		}
		if c >= 0 {
			conflicts++
			continue
		}
		for u, p := range out {
			if (p == api.PhaseOn) != set[on(u)] || (p == api.PhaseOff) != set[off(u)] {
				t.Fatal(list, phases, out)
			}
		}
	}
	if conflicts < 100 {
		t.Error(conflicts)
	}
}

// TestWatch performs random calls and compares with the definition after each of them.
func TestWatch(t *testing.T) {
	r := rand.New(rand.NewSource(2))
	const units = 7
	for range 300 {
		w, _ := New(units)
		var list []api.Clause
		var decisions []api.Literal
		before, conflict := slowClosure(nil, nil)
		for range 30 {
			var got []api.Literal
			var c int
			var e api.Errno
			without := api.Literal{Unit: -1}
			switch r.Intn(5) {
			case 0, 1:
				x := draw(r, units)
				got, c, e = w.Add(x)
				list = append(list, x)
			case 2, 3:
				l := api.Literal{Unit: r.Intn(units), On: r.Intn(2) == 0}
				got, c, e = w.Assign(l)
				taken := slices.Contains(decisions, l) || slices.Contains(decisions, clause.Opposite(l))
				if (e == api.ErrState) != (conflict >= 0 || taken) {
					t.Fatal("assign", e)
				}
				if e != api.OK {
					if c != 0 || len(got) != 0 {
						t.Fatal("error", c)
					}
					continue
				}
				without = l
				decisions = append(decisions, l)
			case 4:
				n := r.Intn(len(decisions) + 1)
				if w.Undo(n) != api.OK {
					t.Fatal("undo")
				}
				decisions = decisions[:n]
				got, c = nil, w.Conflict()
				before, _ = slowClosure(list, decisions)
			}
			var set map[api.Literal]bool
			set, conflict = slowClosure(list, decisions)
			if e != api.OK || c != w.Conflict() || (c >= 0) != (conflict >= 0) || c >= 0 && !violated(set, list[c]) || w.Len() != len(decisions) {
				t.Fatal("conflict", c, conflict, e)
			}
			if c >= 0 {
				if len(got)+len(w.Phases()) != 0 {
					t.Fatal("results of a conflict")
				}
				before = set
				continue
			}
			phases := w.Phases()
			var want []api.Literal
			for u := range units {
				if (phases[u] == api.PhaseOn) != set[on(u)] || (phases[u] == api.PhaseOff) != set[off(u)] {
					t.Fatal("phases", phases)
				}
				for _, l := range []api.Literal{off(u), on(u)} {
					if set[l] && !before[l] && l != without {
						want = append(want, l)
					}
				}
			}
			if !slices.Equal(got, want) {
				t.Fatal("new literals", got, want)
			}
			before = set
		}
	}
}

func TestErrors(t *testing.T) {
	for _, n := range []int{-1, 1025} {
		if w, e := New(n); e != api.ErrArg || w != nil {
			t.Error(n, e)
		}
	}
	var none *Watch
	_, c, e := none.Add(nil)
	_, d, f := none.Assign(on(0))
	if e != api.ErrState || f != api.ErrState || c+d != 0 || none.Undo(0) != api.ErrState || len(none.Phases()) != 0 || none.Conflict() != -1 || none.Len() != 0 {
		t.Error("nil")
	}
	w, _ := New(2)
	if _, c, e := w.Add(api.Clause{on(2)}); e != api.ErrArg || c != 0 {
		t.Error(e)
	}
	if _, c, e := w.Add(api.Clause{on(1), on(0)}); e != api.ErrArg || c != 0 {
		t.Error(e)
	}
	for _, u := range []int{-1, 2} {
		if _, c, e := w.Assign(on(u)); e != api.ErrArg || c != 0 {
			t.Error(e)
		}
	}
	if w.Undo(-1) != api.ErrRange || w.Undo(1) != api.ErrRange || w.Undo(0) != api.OK {
		t.Error("undo")
	}
	for range api.MaxClauses {
		if _, _, e := w.Add(api.Clause{on(0), on(1)}); e != api.OK {
			t.Fatal(e)
		}
	}
	if _, c, e := w.Add(api.Clause{on(0)}); e != api.ErrLimit || c != 0 {
		t.Error(e)
	}
	full, _ := New(1024)
	if got, c, e := full.Assign(on(1023)); e != api.OK || c != -1 || len(got) != 0 || full.Phases()[1023] != api.PhaseOn {
		t.Error(got, c, e)
	}
}

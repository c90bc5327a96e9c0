package clause

import (
	"math/rand"
	"slices"
	"testing"

	"relucert/api"
)

func on(unit int) api.Literal { return api.Literal{Unit: unit, On: true} }

func off(unit int) api.Literal { return api.Literal{Unit: unit} }

func TestExamples(t *testing.T) {
	c, ok := Make([]api.Literal{on(3), off(1), on(3)})
	if !ok || Text(c) != "u1 off | u3 on" || !Subsumes(api.Clause{off(1)}, c) || Subsumes(c, api.Clause{off(1)}) || Subsumes(api.Clause{on(1)}, c) {
		t.Error(c, ok)
	}
	if r, e := Resolve(c, api.Clause{on(1), off(4)}, 1); e != api.OK || Text(r) != "u3 on | u4 off" {
		t.Error(r, e)
	}
	if s, i := Status(c, []int{api.PhaseOpen, api.PhaseOn}); s != Unit || i != 1 {
		t.Error(s, i)
	}
	if Text(nil) != "empty" || Opposite(on(2)) != off(2) || Opposite(off(2)) != on(2) {
		t.Error("text")
	}
}

func TestInvalid(t *testing.T) {
	for _, l := range [][]api.Literal{{on(-1)}, {on(1024)}, {on(1), off(1)}, {off(2), on(5), on(2)}} {
		if c, ok := Make(l); ok || len(c) != 0 {
			t.Error(l)
		}
	}
	if c, ok := Make(nil); !ok || len(c) != 0 || !Valid(nil) || !Valid(api.Clause{on(1023)}) {
		t.Error("empty")
	}
	bad := api.Clause{on(2), on(1)}
	if Valid(bad) || Valid(api.Clause{on(1), on(1)}) || Subsumes(bad, bad) || Subsumes(nil, bad) || Subsumes(bad, api.Clause{on(1), on(2)}) {
		t.Error("valid")
	}
	if s, i := Status(bad, nil); s != 0 || i != -1 {
		t.Error(s, i)
	}
	for i, c := range []struct {
		a, b api.Clause
		unit int
		e    api.Errno
	}{
		{bad, api.Clause{off(1)}, 1, api.ErrArg}, {api.Clause{on(1)}, api.Clause{on(1)}, 1, api.ErrArg}, {api.Clause{on(1)}, api.Clause{off(2)}, 1, api.ErrArg}, {api.Clause{on(1)}, api.Clause{off(1)}, -4, api.ErrArg},
		{api.Clause{on(1), on(2)}, api.Clause{off(1), off(2)}, 1, api.ErrNone}, {api.Clause{on(1)}, api.Clause{off(1)}, 1, api.OK}, {api.Clause{off(1), on(2)}, api.Clause{on(1), on(2)}, 1, api.OK},
	} {
		if r, e := Resolve(c.a, c.b, c.unit); e != c.e || e != api.OK && len(r) != 0 {
			t.Error(i, r, e)
		}
	}
}

func TestStatus(t *testing.T) {
	c := api.Clause{off(0), on(1), on(2)}
	for _, x := range []struct {
		phases      []int
		state, open int
	}{{nil, Open, -1}, {[]int{1, 2}, Unit, 2}, {[]int{1, 2, 2}, False, -1}, {[]int{2}, Satisfied, -1}, {[]int{1, 0, 1}, Satisfied, -1}, {[]int{1, 7, 2}, Unit, 1}, {[]int{0, 0, 2}, Open, -1}} {
		if s, i := Status(c, x.phases); s != x.state || i != x.open {
			t.Error(x, s, i)
		}
	}
	if s, i := Status(nil, nil); s != False || i != -1 {
		t.Error(s, i)
	}
}

func TestReduce(t *testing.T) {
	a, b := api.Clause{on(1)}, api.Clause{on(1), off(2)}
	got := Reduce([]api.Clause{b, {off(3)}, a, {on(2), on(1)}, a, {off(3)}})
	if len(got) != 2 || Text(got[0]) != "u3 off" || Text(got[1]) != "u1 on" {
		t.Error(got)
	}
	if got := Reduce([]api.Clause{a, nil, b}); len(got) != 1 || len(got[0]) != 0 {
		t.Error(got)
	}
}

// TestAssignments draws clauses and compares with all assignments of four units.
func TestAssignments(t *testing.T) {
	r := rand.New(rand.NewSource(1))
	draw := func() api.Clause {
		var l []api.Literal
		for unit := range 4 {
			if r.Intn(2) == 0 {
				l = append(l, api.Literal{Unit: unit, On: r.Intn(2) == 0})
			}
		}
		c, _ := Make(l)
		return c
	}
	holds := func(c api.Clause, bits int) bool {
		return slices.ContainsFunc(c, func(l api.Literal) bool { return l.On == (bits>>l.Unit&1 == 1) })
	}
	for range 1000 {
		list := []api.Clause{draw(), draw(), draw(), draw()}
		reduced := Reduce(list)
		all := func(l []api.Clause, bits int) bool {
			return !slices.ContainsFunc(l, func(c api.Clause) bool { return !holds(c, bits) })
		}
		a, b := list[0], list[1]
		unit := r.Intn(4)
		res, e := Resolve(a, b, unit)
		for bits := range 16 {
			if Subsumes(a, b) && holds(a, bits) && !holds(b, bits) || all(list, bits) != all(reduced, bits) || e == api.OK && holds(a, bits) && holds(b, bits) && !holds(res, bits) {
				t.Fatal(list, bits)
			}
			phases := make([]int, 4)
			for u := range 4 {
				if r.Intn(3) > 0 {
					phases[u] = api.PhaseOff - bits>>u&1
				}
			}
			if s, i := Status(a, phases); s == Unit && holds(a, bits) && !holds(api.Clause{a[i]}, bits) || s == Satisfied && !holds(a, bits) || s == False && holds(a, bits) {
				t.Fatal("status", a, phases)
			}
		}
	}
}

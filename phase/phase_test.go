package phase

import (
	"slices"
	"strings"
	"testing"

	"relucert/api"
	"relucert/linear"
	"relucert/testkit"
)

var frac = testkit.Frac

func same(a, b api.Decision) bool {
	return a.Kind == b.Kind && a.Index == b.Index && a.At.Neg == b.At.Neg && slices.Equal(a.At.Num, b.At.Num) && slices.Equal(a.At.Den, b.At.Den)
}

func on(unit int) api.Decision { return api.Decision{Kind: api.DecOn, Index: unit} }

func off(unit int) api.Decision { return api.Decision{Kind: api.DecOff, Index: unit} }

func above(input int, at api.Rat) api.Decision {
	return api.Decision{Kind: api.DecAbove, Index: input, At: at}
}

func TestText(t *testing.T) {
	long := "x3 <= 1" + strings.Repeat("0", 3999)
	for _, c := range []struct {
		d api.Decision
		s string
	}{{on(0), "u0 on"}, {off(1023), "u1023 off"}, {above(1, frac(1, 2)), "x1 >= 1/2"}, {api.Decision{Kind: api.DecBelow, Index: 255, At: frac(-3, 1)}, "x255 <= -3"}, {above(0, api.Rat{}), "x0 >= 0"}} {
		d, e := Parse(c.s)
		if Text(c.d) != c.s || e != api.OK || !same(d, c.d) {
			t.Error(c, d, e)
		}
	}
	if d, e := Parse(long); e != api.OK || Text(d) != long {
		t.Error(e)
	}
	for _, s := range []string{"", "u", "u0", "u0 ", "u0 on ", " u0 on", "u00 on", "u+1 on", "u1024 on", "u-1 on", "u0 On", "u0 >=", "u0 >= 1", "x0 on", "x0 >= 2/4", "x0 >= 0.5", "x0 >= -0", "x0 >=", "x0 >= ", "x256 >= 1", "x0 >=  1", "x0 = 1", "u0 on 0", "x0  1", long + "0", "x0 >= 1/0", "v0 on", "u0\ton"} {
		if d, e := Parse(s); e != api.ErrSyntax || !same(d, api.Decision{}) {
			t.Error(s[:min(9, len(s))], d, e)
		}
	}
}

func TestDecisions(t *testing.T) {
	wide := api.Rat{Num: api.Nat{2}, Den: api.Nat{4}}
	for i, d := range []api.Decision{{}, {Kind: 5}, {Kind: -1}, on(-1), on(1024), above(256, api.Rat{}), above(0, wide), {Kind: api.DecOn, At: frac(1, 2)}, {Kind: api.DecOff, At: api.Rat{Den: api.Nat{1}}}} {
		if Valid(d) || Text(d) != "" || !same(Opposite(Opposite(d)), d) {
			t.Error(i)
		}
	}
	for _, c := range []struct{ a, b api.Decision }{{on(3), off(3)}, {above(1, wide), api.Decision{Kind: api.DecBelow, Index: 1, At: wide}}, {api.Decision{Kind: 9, Index: 4}, api.Decision{Kind: 9, Index: 4}}, {api.Decision{Kind: -7}, api.Decision{Kind: -7}}} {
		if !same(Opposite(c.a), c.b) || !same(Opposite(c.b), c.a) {
			t.Error(c)
		}
	}
	if l, ok := Literal(on(4)); !ok || l != (api.Literal{Unit: 4, On: true}) || !same(Decision(l), on(4)) {
		t.Error(l, ok)
	}
	if l, ok := Literal(off(4)); !ok || l != (api.Literal{Unit: 4}) || !same(Decision(l), off(4)) {
		t.Error(l, ok)
	}
	if l, ok := Literal(above(4, wide)); ok || l != (api.Literal{}) {
		t.Error(l, ok)
	}
}

func TestPath(t *testing.T) {
	p := []api.Decision{on(0), above(0, api.Rat{}), off(2)}
	if got, e := Path(p, 3); e != api.OK || !slices.Equal(got, []int{api.PhaseOn, api.PhaseOpen, api.PhaseOff}) {
		t.Error(got, e)
	}
	many := slices.Repeat([]api.Decision{above(0, api.Rat{})}, api.MaxDepth+1)
	for i, c := range []struct {
		path  []api.Decision
		units int
		e     api.Errno
	}{
		{p, -1, api.ErrArg}, {p, 1025, api.ErrArg}, {p, 2, api.ErrArg}, {[]api.Decision{on(0), on(0), {}}, 3, api.ErrArg}, {[]api.Decision{on(0), off(0)}, 3, api.ErrState}, {[]api.Decision{on(0), on(0)}, 3, api.ErrState},
		{many, 3, api.ErrLimit}, {append(slices.Clone(many), on(1), on(1)), 3, api.ErrState}, {many[1:], 3, api.OK}, {nil, 0, api.OK}, {nil, 1024, api.OK},
	} {
		if got, e := Path(c.path, c.units); e != c.e || e != api.OK && len(got) != 0 || e == api.OK && len(got) != c.units {
			t.Error(i, e)
		}
	}
	for i, c := range []struct {
		path []api.Decision
		d    api.Decision
		e    api.Errno
	}{
		{p, off(0), api.ErrState}, {p, off(1), api.OK}, {p, api.Decision{}, api.ErrArg}, {[]api.Decision{{}}, on(1), api.ErrArg}, {[]api.Decision{on(0), off(0)}, on(1), api.ErrState}, {many[1:], on(1), api.ErrLimit}, {many[2:], on(1), api.OK}, {nil, on(1), api.OK},
	} {
		got, e := Extend(c.path, c.d)
		if e != c.e || e != api.OK && len(got) != 0 || e == api.OK && (len(got) != len(c.path)+1 || !same(got[len(got)-1], c.d)) {
			t.Error(i, e)
		}
	}
}

func TestOf(t *testing.T) {
	f, _, _ := linear.Parse("x0")
	q := api.Query{Graph: api.Graph{Inputs: 1, Units: []api.Affine{f, f, f}, Outputs: []api.Affine{f}}, Region: api.Region{Lo: []api.Rat{{}}, Hi: []api.Rat{{}}}}
	s := api.Scope{Query: q, Path: []api.Decision{off(2)}, Lemmas: []api.Lemma{{Unit: 1}}}
	if got := Of(s); !slices.Equal(got, []int{api.PhaseOpen, api.PhaseOn, api.PhaseOff}) {
		t.Error(got)
	}
	if len(Of(api.Scope{})) != 0 {
		t.Error("query")
	}
}

package linear

import (
	"math/rand"
	"strings"
	"testing"

	"relucert/api"
	"relucert/rational"
)

func frac(a, b int) api.Rat {
	x, _ := rational.Frac(a, b)
	return x
}

func form(t *testing.T, s string) api.Affine {
	t.Helper()
	f, at, e := Parse(s)
	if e != api.OK || at != 0 {
		t.Fatal(s, at, e)
	}
	return f
}

func TestMake(t *testing.T) {
	half := api.Rat{Num: api.Nat{2, 0}, Den: api.Nat{4}}
	f, e := Make([]api.Term{{Var: 3, Coef: half}, {Var: 0, Coef: rational.Of(2)}, {Var: 3, Coef: half}, {Var: 1, Coef: rational.Of(1)}, {Var: 1, Coef: rational.Of(-1)}}, half)
	if e != api.OK || !Valid(f, 4) || Text(f) != "2*x0 + x3 + 1/2" {
		t.Error(Text(f), e)
	}
	if f, e := Make([]api.Term{{Var: 0, Coef: half}, {Var: -1}}, half); e != api.ErrArg || len(f.Terms) != 0 || len(f.Const.Num) != 0 {
		t.Error(f, e)
	}
}

func TestValid(t *testing.T) {
	one := rational.Of(1)
	for _, f := range []api.Affine{
		{Terms: []api.Term{{Var: -1, Coef: one}}}, {Terms: []api.Term{{Var: 5, Coef: one}}}, {Terms: []api.Term{{Var: 1, Coef: one}, {Var: 1, Coef: one}}},
		{Terms: []api.Term{{Var: 2, Coef: one}, {Var: 1, Coef: one}}}, {Terms: []api.Term{{Var: 0}}}, {Const: api.Rat{Den: api.Nat{1}}}, {Terms: []api.Term{{Coef: api.Rat{Num: api.Nat{2}, Den: api.Nat{2}}}}},
	} {
		if Valid(f, 5) {
			t.Error(f)
		}
	}
	if !Valid(api.Affine{}, 0) || !Valid(form(t, "x0 + x4"), 5) || Valid(form(t, "x4"), 4) || Valid(form(t, "x4"), -1) {
		t.Error("valid")
	}
}

func TestText(t *testing.T) {
	for _, c := range []struct{ in, want string }{
		{"2*x0 - 1/2*x3 + 5", "2*x0 - 1/2*x3 + 5"}, {"0", "0"}, {"-x1", "-x1"}, {"  + x1 - x1", "0"}, {"x2+x1", "x1 + x2"},
		{"4/6*x0", "2/3*x0"}, {"-1*x0-1", "-x0 - 1"}, {"3 - 0*x7 +0", "3"}, {"2 / 4 * x10 + 1", "1/2*x10 + 1"}, {"- 3 /2 ", "-3/2"}, {"x999999999", "x999999999"},
	} {
		if s := Text(form(t, c.in)); s != c.want {
			t.Error(c, s)
		}
	}
}

func TestParseErrors(t *testing.T) {
	long := strings.Repeat("7", 200)
	for _, c := range []struct {
		s  string
		at int
	}{
		{"2*x", 3}, {"", 0}, {"  ", 2}, {"2 3", 2}, {"01", 1}, {"x01", 2}, {"x 1", 1}, {"x", 1}, {"2/0", 2}, {"2/", 2}, {"2/01", 2}, {"1 2", 2}, {"x0 x1", 3},
		{"x0 +", 4}, {"x0 + ", 5}, {"+-x0", 1}, {"x0*2", 2}, {"2*3", 2}, {"\tx0", 0}, {"x0\n", 2}, {"x1234567890", 10}, {long + "1", 200}, {"1/" + long + "1", 202}, {"y0", 0}, {"2**x0", 2}, {"1.5", 1}, {"0/5/2", 3}, {"-", 1},
	} {
		f, at, e := Parse(c.s)
		if e != api.ErrSyntax || at != c.at || len(f.Terms) != 0 || len(f.Const.Num) != 0 {
			t.Error(c, at, e)
		}
	}
	if f := form(t, long+"/"+long+"*x0"); Text(f) != "x0" {
		t.Error("200 digits")
	}
}

func TestExamples(t *testing.T) {
	if f := Substitute(form(t, "2*x0 + x1"), 0, form(t, "x1 + 1")); Text(f) != "3*x1 + 2" {
		t.Error(Text(f))
	}
	if f := Substitute(form(t, "2*x0 + x1"), 0, form(t, "x0 - x1")); Text(f) != "2*x0 - x1" {
		t.Error(Text(f))
	}
	box := []api.Interval{{Lo: rational.Of(0), Hi: rational.Of(1)}, {Lo: rational.Of(-1), Hi: rational.Of(3)}}
	r, e := Range(form(t, "x0 - 2*x1"), box)
	if e != api.OK || rational.Cmp(r.Lo, rational.Of(-6)) != 0 || rational.Cmp(r.Hi, rational.Of(3)) != 0 {
		t.Error(r, e)
	}
	if r, e := Range(form(t, "x0 + x2"), box); e != api.ErrRange || len(r.Lo.Num)+len(r.Hi.Num) != 0 {
		t.Error(r, e)
	}
	if v, e := Eval(form(t, "x0 + x2"), []api.Rat{frac(1, 2)}); e != api.ErrRange || len(v.Num) != 0 {
		t.Error(v, e)
	}
	if c := Coef(form(t, "x0 + 3*x2"), 2); rational.Cmp(c, rational.Of(3)) != 0 || len(Coef(form(t, "x0"), 1).Num) != 0 || len(Coef(form(t, "x0"), -5).Num) != 0 {
		t.Error(c)
	}
}

func random(r *rand.Rand) api.Affine {
	var terms []api.Term
	for range r.Intn(5) {
		terms = append(terms, api.Term{Var: r.Intn(4), Coef: frac(r.Intn(9)-4, 1+r.Intn(4))})
	}
	f, _ := Make(terms, frac(r.Intn(9)-4, 1+r.Intn(4)))
	return f
}

func TestValues(t *testing.T) {
	r := rand.New(rand.NewSource(1))
	at := func(f api.Affine, x []api.Rat) api.Rat {
		v, e := Eval(f, x)
		if e != api.OK || !rational.Valid(v) || !Valid(f, 4) {
			t.Fatal(f, e)
		}
		return v
	}
	for range 1000 {
		f, g, c, v := random(r), random(r), frac(r.Intn(5)-2, 1+r.Intn(3)), r.Intn(4)
		var x, y []api.Rat
		var box []api.Interval
		for range 4 {
			lo, width := frac(r.Intn(9)-4, 2), frac(r.Intn(3), 2)
			box = append(box, api.Interval{Lo: lo, Hi: rational.Add(lo, width)})
			x = append(x, rational.Add(lo, rational.Mul(width, frac(r.Intn(3), 2))))
		}
		y = append(y, x...)
		y[v] = at(g, x)
		for _, k := range []struct{ got, want api.Rat }{
			{at(Add(f, g), x), rational.Add(at(f, x), at(g, x))}, {at(Sub(f, g), x), rational.Sub(at(f, x), at(g, x))},
			{at(Scale(f, c), x), rational.Mul(at(f, x), c)}, {at(Substitute(f, v, g), x), at(f, y)},
		} {
			if rational.Cmp(k.got, k.want) != 0 {
				t.Fatal(Text(f), Text(g), c, v)
			}
		}
		ran, _ := Range(f, box)
		if rational.Cmp(ran.Lo, at(f, x)) > 0 || rational.Cmp(ran.Hi, at(f, x)) < 0 || rational.Cmp(ran.Lo, corner(f, box, false)) != 0 || rational.Cmp(ran.Hi, corner(f, box, true)) != 0 {
			t.Fatal("range", Text(f), box)
		}
		if h := form(t, Text(f)); !Equal(h, f) || Equal(f, Add(f, form(t, "1"))) || Equal(f, Add(f, form(t, "x2"))) {
			t.Fatal("text", Text(f))
		}
	}
}

func TestCombine(t *testing.T) {
	forms := []api.Affine{form(t, "x0 - x2 + 1"), form(t, "7*x5"), form(t, "x1 + x2")}
	weights := []api.Rat{rational.Of(2), {}, frac(-1, 2), rational.Of(9)}
	if f := Combine(frac(1, 3), weights, forms); Text(f) != "2*x0 - 1/2*x1 - 5/2*x2 + 7/3" {
		t.Error(Text(f))
	}
	if f := Replace(form(t, "3*x0 + 3*x2 - 4"), forms); Text(f) != "3*x0 + 3*x1 - 1" {
		t.Error(Text(f))
	}
	if f := Combine(api.Rat{}, nil, nil); Text(f) != "0" {
		t.Error(Text(f))
	}
}

// corner is the least or greatest value at a corner of the box.
func corner(f api.Affine, box []api.Interval, greatest bool) api.Rat {
	var best api.Rat
	for n := range 16 {
		var x []api.Rat
		for i := range 4 {
			if n>>i&1 == 1 {
				x = append(x, box[i].Hi)
			} else {
				x = append(x, box[i].Lo)
			}
		}
		v, _ := Eval(f, x)
		if n == 0 || greatest == (rational.Cmp(v, best) > 0) {
			best = v
		}
	}
	return best
}

package claim

import (
	"math/rand"
	"slices"
	"strings"
	"testing"

	"relucert/api"
	"relucert/linear"
	"relucert/rational"
	"relucert/testkit"
)

var (
	frac = testkit.Frac
	form = testkit.Form
)

func TestValid(t *testing.T) {
	row := []api.Affine{form("x0")}
	for i, c := range []struct {
		c  api.Claim
		n  int
		ok bool
	}{
		{api.Claim{Kind: api.ClaimTop}, 1, true}, {api.Claim{Kind: api.ClaimTop}, 0, false}, {api.Claim{Kind: api.ClaimTop}, 257, false}, {api.Claim{Kind: api.ClaimTop, Target: 2}, 2, false},
		{api.Claim{Kind: api.ClaimTop, Target: -1}, 2, false}, {api.Claim{Kind: api.ClaimTop, Rows: row}, 2, false}, {api.Claim{Kind: api.ClaimTop, Margin: rational.Of(-1)}, 2, false},
		{api.Claim{Kind: api.ClaimTop, Margin: api.Rat{Den: api.Nat{1}}}, 2, false}, {api.Claim{}, 2, false}, {api.Claim{Kind: 3}, 2, false}, {api.Claim{Kind: api.ClaimRows}, 2, false},
		{api.Claim{Kind: api.ClaimRows, Rows: row}, 1, true}, {api.Claim{Kind: api.ClaimRows, Rows: row, Target: 1}, 3, false}, {api.Claim{Kind: api.ClaimRows, Rows: []api.Affine{form("x1")}}, 1, false},
		{api.Claim{Kind: api.ClaimRows, Rows: slices.Repeat(row, 256)}, 1, true}, {api.Claim{Kind: api.ClaimRows, Rows: slices.Repeat(row, 257)}, 1, false},
	} {
		_, e := Goals(c.c, c.n)
		if Valid(c.c, c.n) != c.ok || (e == api.OK) != c.ok || !c.ok && e != api.ErrArg {
			t.Error(i, e)
		}
	}
}

func TestGoals(t *testing.T) {
	goals, e := Goals(api.Claim{Kind: api.ClaimTop, Target: 1}, 3)
	if e != api.OK || len(goals) != 2 || linear.Text(goals[0]) != "-x0 + x1" || linear.Text(goals[1]) != "x1 - x2" {
		t.Error(goals, e)
	}
	c := api.Claim{Kind: api.ClaimRows, Rows: []api.Affine{form("x0"), form("x1 - 1")}, Margin: frac(1, 2)}
	goals, e = Goals(c, 2)
	if e != api.OK || linear.Text(goals[0]) != "x0 - 1/2" || linear.Text(goals[1]) != "x1 - 3/2" {
		t.Error(goals, e)
	}
	half := api.Rat{Num: api.Nat{2}, Den: api.Nat{4}}
	if k, ok, e := Holds(c, []api.Rat{half, rational.Of(1)}); k != 1 || ok || e != api.OK {
		t.Error(k, ok, e)
	}
	if k, ok, e := Holds(c, []api.Rat{half, frac(3, 2)}); k != 0 || !ok || e != api.OK {
		t.Error(k, ok, e)
	}
	if k, ok, e := Holds(c, []api.Rat{half}); k != 0 || ok || e != api.ErrArg {
		t.Error(k, ok, e)
	}
}

func TestParse(t *testing.T) {
	for _, c := range []struct {
		s, want string
	}{
		{"y0 - y1 >= 1/2; y2 <= 3", "y0 - y1 - 1/2 >= 0; -y2 + 3 >= 0"}, {"  top   12  ", "top 12"}, {"top 0margin 1/10", "top 0 margin 1/10"}, {"top 2 margin 2/20", "top 2 margin 1/10"},
		{"1>=0", "1 >= 0"}, {" y255 >=y0 margin 0", "-y0 + y255 >= 0"}, {"y0 >= 0 margin 1 + 1", "y0 >= 0 margin 2"}, {"y0 - y0 >= 0", "0 >= 0"}, {"top 255", "top 255"},
	} {
		got, at, e := Parse(c.s)
		if e != api.OK || at != 0 || Text(got) != c.want {
			t.Error(c, Text(got), at, e)
		}
	}
	for _, c := range []struct {
		s  string
		at int
		e  api.Errno
	}{
		{"y0 > 1", 0, api.ErrSyntax}, {"", 0, api.ErrSyntax}, {"top", 0, api.ErrSyntax}, {"top1", 0, api.ErrSyntax}, {"topper 1", 0, api.ErrSyntax}, {"  top 01", 0, api.ErrSyntax}, {"top 1 2", 0, api.ErrSyntax},
		{"top 1234567890", 0, api.ErrSyntax}, {"top +1", 0, api.ErrSyntax}, {"top\t1", 0, api.ErrSyntax}, {"top 1 margin", 12, api.ErrSyntax}, {"top 1 margin x0", 12, api.ErrSyntax}, {"top 1 margin 0*x0", 12, api.ErrSyntax},
		{"top 1 margin 1 margin", 0, api.ErrSyntax}, {"y0 >= 0; ", 8, api.ErrSyntax}, {"y0 >= 0;y1", 8, api.ErrSyntax}, {"x0 >= 0", 0, api.ErrSyntax}, {"y0 >= 0; y1 >= x0", 14, api.ErrSyntax}, {"y0 >= >= 0", 5, api.ErrSyntax},
		{"y0 <= 1 >= 0", 5, api.ErrSyntax}, {"y0 >= 1 margin y", 14, api.ErrSyntax}, {"y0 > 1 margin y", 0, api.ErrSyntax}, {"top 256", 0, api.ErrArg}, {"top 1 margin -1", 0, api.ErrArg}, {"y256 >= 0", 0, api.ErrArg},
		{strings.Repeat("y0>=0;", 256) + "y0>=0", 0, api.ErrArg}, {"\ty0 >= 0", 0, api.ErrSyntax}, {"margin 1", 0, api.ErrSyntax},
	} {
		got, at, e := Parse(c.s)
		if e != c.e || at != c.at || got.Kind != 0 || got.Target != 0 || len(got.Rows) != 0 || len(got.Margin.Num) != 0 {
			t.Error(c, got, at, e)
		}
	}
}

func TestText(t *testing.T) {
	if s := Text(api.Claim{Kind: api.ClaimTop, Target: 2, Margin: frac(1, 10)}); s != "top 2 margin 1/10" {
		t.Error(s)
	}
	if s := Text(api.Claim{Kind: api.ClaimTop, Target: 256}); s != "" {
		t.Error(s)
	}
	r := rand.New(rand.NewSource(1))
	for range 300 {
		c := api.Claim{Kind: api.ClaimRows, Margin: frac(r.Intn(3), 1+r.Intn(3))}
		for range 1 + r.Intn(3) {
			f, _ := linear.Make([]api.Term{{Var: r.Intn(4), Coef: frac(r.Intn(9)-4, 3)}, {Var: r.Intn(4), Coef: frac(r.Intn(9)-4, 2)}}, frac(r.Intn(5)-2, 2))
			c.Rows = append(c.Rows, f)
		}
		got, _, e := Parse(Text(c))
		if e != api.OK || !slices.EqualFunc(got.Rows, c.Rows, linear.Equal) || rational.Cmp(got.Margin, c.Margin) != 0 || got.Kind != c.Kind {
			t.Fatal(Text(c), e)
		}
	}
}

func TestMarginAndTop(t *testing.T) {
	r := rand.New(rand.NewSource(2))
	for range 500 {
		y := []api.Rat{frac(r.Intn(5), 2), frac(r.Intn(5), 2), frac(r.Intn(5), 2)}
		c := api.Claim{Kind: api.ClaimTop, Target: r.Intn(3)}
		_, holds, _ := Holds(c, y)
		greatest := true
		for _, v := range y {
			greatest = greatest && rational.Cmp(v, y[c.Target]) <= 0
		}
		if holds != greatest {
			t.Fatal(c, y)
		}
		c.Margin = frac(1, 2)
		if _, more, _ := Holds(c, y); more && !holds {
			t.Fatal("margin", y)
		}
	}
}

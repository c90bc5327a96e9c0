package pattern

import (
	"math/rand"
	"slices"
	"testing"

	"relucert/api"
	"relucert/graph"
	"relucert/linear"
	"relucert/rational"
	"relucert/testkit"
)

var forms = testkit.Forms

const (
	on  = api.PhaseOn
	off = api.PhaseOff
)

func equal(a, b []api.Affine) bool { return slices.EqualFunc(a, b, linear.Equal) }

func example() api.Graph {
	return api.Graph{Inputs: 1, Units: forms("x0", "1 - x0"), Outputs: forms("2*x1 + x2")}
}

func TestExample(t *testing.T) {
	g := example()
	half, _ := rational.Frac(1, 2)
	if p, e := Of(g, []api.Rat{half}); e != api.OK || !slices.Equal(p, []int{on, on}) {
		t.Error(p, e)
	}
	if p, e := Of(g, []api.Rat{rational.Of(1)}); e != api.OK || !slices.Equal(p, []int{on, 0}) {
		t.Error(p, e)
	}
	if p, e := Of(g, []api.Rat{rational.Of(-3)}); e != api.OK || !slices.Equal(p, []int{off, on}) {
		t.Error(p, e)
	}
	vars, outs, e := Forms(g, []int{on, off})
	if e != api.OK || !equal(vars, forms("x0", "x0", "0")) || !equal(outs, forms("2*x0")) {
		t.Error(vars, outs, e)
	}
	if rows, e := Piece(g, []int{on, off}); e != api.OK || !equal(rows, forms("x0", "x0 - 1")) {
		t.Error(rows, e)
	}
}

func TestErrors(t *testing.T) {
	g := example()
	for _, p := range [][]int{nil, {on}, {on, 0}, {on, 3}, {on, off, on}} {
		vars, outs, e := Forms(g, p)
		rows, f := Piece(g, p)
		if e != api.ErrArg || f != api.ErrArg || len(vars)+len(outs)+len(rows) != 0 {
			t.Error(p, e, f)
		}
	}
	if _, _, e := Forms(api.Graph{}, nil); e != api.ErrArg {
		t.Error(e)
	}
	if p, e := Of(g, nil); e != api.ErrArg || len(p) != 0 {
		t.Error(e)
	}
	for _, c := range []struct {
		p, of []int
		want  bool
	}{{[]int{on, off}, []int{0, off}, true}, {[]int{on, off}, []int{off, 0}, false}, {[]int{on}, []int{on, 0}, false}, {[]int{0}, []int{0}, false}, {nil, nil, true}, {[]int{on}, []int{7}, false}} {
		if Fits(c.p, c.of) != c.want {
			t.Error(c)
		}
	}
}

func TestAll(t *testing.T) {
	var got [][]int
	for p := range All(2) {
		got = append(got, p)
	}
	want := [][]int{{on, on}, {on, off}, {off, on}, {off, off}}
	if !slices.EqualFunc(got, want, slices.Equal) {
		t.Error(got)
	}
	for _, c := range []struct{ units, count int }{{0, 1}, {-1, 0}, {1025, 0}, {5, 32}} {
		n := 0
		for p := range All(c.units) {
			if len(p) != c.units {
				t.Error(p)
			}
			n++
		}
		if n != c.count {
			t.Error(c, n)
		}
	}
	n := 0
	for p := range All(1024) {
		if n++; n == 3 {
			if p[1023] != on || p[1022] != off {
				t.Error("order")
			}
			break
		}
	}
	if n != 3 {
		t.Error("stop", n)
	}
}

func TestPieces(t *testing.T) {
	r := rand.New(rand.NewSource(1))
	for range 200 {
		g := api.Graph{Inputs: 2}
		form := func(vars int) api.Affine {
			var terms []api.Term
			for range 3 {
				terms = append(terms, api.Term{Var: r.Intn(vars), Coef: rational.Of(r.Intn(5) - 2)})
			}
			f, _ := linear.Make(terms, rational.Of(r.Intn(3)-1))
			return f
		}
		for j := range 3 {
			g.Units = append(g.Units, form(2+j))
		}
		g.Outputs = []api.Affine{form(5)}
		x := []api.Rat{rational.Of(r.Intn(5) - 2), rational.Of(r.Intn(5) - 2)}
		of, _ := Of(g, x)
		values, _ := graph.Values(g, x)
		outs, _ := graph.Outputs(g, x)
		fitting := 0
		for p := range All(3) {
			rows, _ := Piece(g, p)
			in := !slices.ContainsFunc(rows, func(f api.Affine) bool { v, _ := linear.Eval(f, x); return rational.Sign(v) < 0 })
			if in != Fits(p, of) {
				t.Fatal(graph.Text(g), p, x)
			}
			if !in {
				continue
			}
			fitting++
			vars, outputs, _ := Forms(g, p)
			for i, f := range append(vars, outputs...) {
				v, _ := linear.Eval(f, x)
				if rational.Cmp(v, append(values, outs...)[i]) != 0 {
					t.Fatal("value", i)
				}
			}
		}
		if fitting == 0 {
			t.Fatal("no pattern fits")
		}
	}
}

// Package tableau implements the exact simplex method on a dictionary that can grow. Packages simplex and warm are two ways to use it.
package tableau

import (
	"relucert/api"
	"relucert/quick"
)

// Tableau is a dictionary of a linear program. Row i of the program has a slack, its value. Each column stands for a nonbasic variable, which has the value 0; each line for a basic one, which is a constant plus multiples of the columns. Variables of the program are free; a free variable that becomes basic remains so.
//
// Variables are numbered: slack i is i, variable v of the program is -1-v.
type Tableau struct {
	vars   int
	slacks int
	cols   []int // variables of the columns
	lines  []line
	cost   []quick.Num // the objective: a multiple of each column, and a constant
	pivots int
}

// line is a basic variable with a multiple of each column, and a constant behind them.
type line struct {
	basic int
	coefs []quick.Num
}

func free(v int) int { return -1 - v }

func isFree(number int) bool { return number < 0 }

// New returns the tableau of a valid program.
func New(p api.Program) *Tableau {
	t := &Tableau{vars: p.Vars, cols: make([]int, p.Vars), cost: dense(p.Objective, p.Vars)}
	for v := range t.cols {
		t.cols[v] = free(v)
	}
	for _, f := range p.Rows {
		t.lines = append(t.lines, line{t.slacks, dense(f, p.Vars)})
		t.slacks++
	}
	return t
}

// dense returns the coefficients of all variables of a form, and its constant.
func dense(f api.Affine, vars int) []quick.Num {
	out := make([]quick.Num, vars+1)
	for _, x := range f.Terms {
		out[x.Var] = quick.Of(x.Coef)
	}
	out[vars] = quick.Of(f.Const)
	return out
}

// Clone returns an independent copy.
func (t *Tableau) Clone() *Tableau {
	c := *t
	c.cols = make([]int, len(t.cols))
	copy(c.cols, t.cols)
	c.cost = make([]quick.Num, len(t.cost))
	copy(c.cost, t.cost)
	c.lines = make([]line, len(t.lines))
	for i, l := range t.lines {
		coefs := make([]quick.Num, len(l.coefs))
		copy(coefs, l.coefs)
		c.lines[i] = line{l.basic, coefs}
	}
	return &c
}

// Add appends a row to the program.
func (t *Tableau) Add(f api.Affine) {
	n := len(t.cols)
	coefs := make([]quick.Num, n+1)
	coefs[n] = quick.Of(f.Const)
	want := map[int]quick.Num{}
	for _, x := range f.Terms {
		want[free(x.Var)] = quick.Of(x.Coef)
	}
	for j, number := range t.cols {
		if c, ok := want[number]; ok {
			coefs[j] = coefs[j].Add(c)
		}
	}
	for _, l := range t.lines {
		if c, ok := want[l.basic]; ok {
			addMultiple(coefs, l.coefs, c)
		}
	}
	t.lines = append(t.lines, line{t.slacks, coefs})
	t.slacks++
}

// addMultiple adds c times the numbers of b to those of a.
func addMultiple(a, b []quick.Num, c quick.Num) {
	for k, x := range b {
		if !x.IsZero() {
			a[k] = a[k].Add(c.Mul(x))
		}
	}
}

// pivot exchanges the basic variable of line r and the nonbasic one of column q.
func (t *Tableau) pivot(r, q int) {
	t.pivots++
	row := t.lines[r].coefs
	inverse := row[q].Inv()
	minus := inverse.Neg()
	solved := make([]quick.Num, len(row))
	for k, x := range row {
		if !x.IsZero() {
			solved[k] = x.Mul(minus)
		}
	}
	solved[q] = inverse
	for i := range t.lines {
		if i != r {
			replaceColumn(t.lines[i].coefs, q, solved)
		}
	}
	replaceColumn(t.cost, q, solved)
	t.lines[r].coefs = solved
	t.lines[r].basic, t.cols[q] = t.cols[q], t.lines[r].basic
}

// replaceColumn substitutes the variable of column q by its new line.
func replaceColumn(coefs []quick.Num, q int, solved []quick.Num) {
	c := coefs[q]
	if c.IsZero() {
		return
	}
	coefs[q] = quick.Num{}
	addMultiple(coefs, solved, c)
}

// constant returns the constant of a list of coefficients.
func (t *Tableau) constant(coefs []quick.Num) quick.Num { return coefs[len(t.cols)] }

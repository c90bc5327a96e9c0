package simplex

import (
	"slices"

	"relucert/api"
	"relucert/linear"
	"relucert/quick"
	"relucert/rational"
)

// Tableau is a dictionary of a linear program to which rows can be added (layer 30). Row i of the program has a slack, its value. Each column stands for a nonbasic variable, which has the value 0; each line for a basic one, which is a constant plus multiples of the columns. Variables of the program are free; a free variable that becomes basic remains so.
//
// Variables are numbered: slack i is i, variable v of the program is -1-v.
type Tableau struct {
	vars   int
	slacks int
	cols   []int // variables of the columns
	lines  []line
	cost   line // the objective
	rising line // another objective, while the first feasible point is looked for
	pivots int
}

// line is a basic variable times a positive integer: an integer multiple of each column, and a constant behind them. These integers have no common divisor.
type line struct {
	basic int
	den   quick.Int
	coefs []quick.Int
}

func free(v int) int { return -1 - v }

func isFree(number int) bool { return number < 0 }

// NewTableau returns the tableau of a valid program.
func NewTableau(p api.Program) *Tableau {
	t := &Tableau{vars: p.Vars, cols: make([]int, p.Vars), cost: newLine(0, dense(p.Objective, p.Vars))}
	for v := range t.cols {
		t.cols[v] = free(v)
	}
	for _, f := range p.Rows {
		t.lines = append(t.lines, newLine(t.slacks, dense(f, p.Vars)))
		t.slacks++
	}
	return t
}

// dense returns the coefficients of all variables of a form, and its constant.
func dense(f api.Affine, vars int) []api.Rat {
	out := make([]api.Rat, vars+1)
	for _, x := range f.Terms {
		out[x.Var] = x.Coef
	}
	out[vars] = f.Const
	return out
}

// newLine returns the line with some coefficients.
func newLine(basic int, coefs []api.Rat) line {
	l := line{basic, quick.Small(1), make([]quick.Int, len(coefs))}
	for _, c := range coefs {
		if len(c.Den) > 0 {
			d := quick.Of(false, c.Den)
			l.den = l.den.Mul(d.Quo(quick.Gcd(l.den, d)))
		}
	}
	for k, c := range coefs {
		if len(c.Num) > 0 {
			l.coefs[k] = quick.Of(c.Neg, c.Num).Mul(l.den.Quo(quick.Of(false, rational.Den(c))))
		}
	}
	l.reduce()
	return l
}

// reduce removes the common divisor. It is found after a few numbers, in most cases.
func (l *line) reduce() {
	g := l.den
	for _, c := range l.coefs {
		if g.IsOne() {
			return
		}
		if !c.IsZero() {
			g = quick.Gcd(g, c)
		}
	}
	if g.IsOne() {
		return
	}
	l.den = l.den.Quo(g)
	for k, c := range l.coefs {
		if !c.IsZero() {
			l.coefs[k] = c.Quo(g)
		}
	}
}

// constant returns the constant, times the denominator.
func (l *line) constant() quick.Int { return l.coefs[len(l.coefs)-1] }

// number returns a number of the line as a rational number.
func (l *line) number(x quick.Int) api.Rat {
	q, _ := rational.Make(x.Value(), l.den.Value())
	return q
}

// Clone returns an independent copy.
func (t *Tableau) Clone() *Tableau {
	c := *t
	c.cols = slices.Clone(t.cols)
	c.cost.coefs = slices.Clone(t.cost.coefs)
	c.lines = make([]line, len(t.lines))
	copy(c.lines, t.lines)
	for i := range c.lines {
		c.lines[i].coefs = slices.Clone(t.lines[i].coefs)
	}
	return &c
}

// Add appends a row to the program.
func (t *Tableau) Add(f api.Affine) {
	n := len(t.cols)
	sum := make([]api.Rat, n+1)
	sum[n] = f.Const
	for j, number := range t.cols {
		if isFree(number) {
			sum[j] = linear.Coef(f, free(number))
		}
	}
	for i := range t.lines {
		l := &t.lines[i]
		if !isFree(l.basic) {
			continue
		}
		c := linear.Coef(f, free(l.basic))
		if len(c.Num) == 0 {
			continue
		}
		for k, x := range l.coefs {
			if !x.IsZero() {
				sum[k] = rational.Add(sum[k], rational.Mul(c, l.number(x)))
			}
		}
	}
	t.lines = append(t.lines, newLine(t.slacks, sum))
	t.slacks++
}

// pivot exchanges the basic variable of line r and the nonbasic one of column q.
func (t *Tableau) pivot(r, q int) {
	t.pivots++
	row := t.lines[r]
	solved := line{t.cols[q], row.coefs[q], make([]quick.Int, len(row.coefs))}
	negative := solved.den.Sign() < 0
	for k, x := range row.coefs {
		if negative || x.IsZero() {
			solved.coefs[k] = x
		} else {
			solved.coefs[k] = x.Neg()
		}
	}
	solved.coefs[q] = row.den
	if negative {
		solved.den, solved.coefs[q] = solved.den.Neg(), row.den.Neg()
	}
	for i := range t.lines {
		if i != r {
			t.lines[i].substitute(q, &solved)
		}
	}
	t.cost.substitute(q, &solved)
	if t.rising.coefs != nil {
		t.rising.substitute(q, &solved)
	}
	t.lines[r] = solved
	t.cols[q] = row.basic
}

// substitute replaces the variable of column q by its line.
func (l *line) substitute(q int, solved *line) {
	c := l.coefs[q]
	if c.IsZero() {
		return
	}
	g := quick.Gcd(c, solved.den)
	factor, share := solved.den.Quo(g), c.Quo(g)
	l.coefs[q] = quick.Int{}
	l.den = l.den.Mul(factor)
	for k, s := range solved.coefs {
		switch x := l.coefs[k]; {
		case !s.IsZero():
			l.coefs[k] = quick.Combine(x, factor, share, s)
		case !x.IsZero() && !factor.IsOne():
			l.coefs[k] = x.Mul(factor)
		}
	}
	l.reduce()
}

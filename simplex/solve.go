package simplex

import (
	"relucert/api"
	"relucert/quick"
	"relucert/rational"
)

// patience is the number of pivots without progress after which Bland's rule is used, which excludes cycles but is slower.
const patience = 20

// outcome is the end of a simplex method: solved, or the line or the column that proves that there is no solution.
type outcome struct {
	status int
	at     int
}

// Solve returns a solution of the program, or ErrLimit after too many pivots.
func (t *Tableau) Solve() (api.Solution, api.Errno) {
	t.pivots = 0
	t.eliminate()
	out, e := t.optimize()
	if e != api.OK {
		return api.Solution{}, e
	}
	switch out.status {
	case api.LPInfeasible:
		return t.refutation(out.at), api.OK
	case api.LPUnbounded:
		return t.direction(out.at), api.OK
	}
	return t.optimum(), api.OK
}

// optimize uses the dual method where it can begin at once, and otherwise first makes the constants of all slacks nonnegative with an objective that rises with all of them.
func (t *Tableau) optimize() (outcome, api.Errno) {
	if t.isDualFeasible() {
		return t.dual(t.cost.coefs)
	}
	t.rising = line{den: quick.Small(1), coefs: make([]quick.Int, len(t.cost.coefs))}
	for j, number := range t.cols {
		if !isFree(number) {
			t.rising.coefs[j] = quick.Small(1)
		}
	}
	out, e := t.dual(t.rising.coefs)
	t.rising = line{}
	if e != api.OK || out.status != api.LPOptimal {
		return out, e
	}
	return t.primal()
}

// eliminate makes the free variables basic, the last ones first, where a row contains them.
func (t *Tableau) eliminate() {
	for q := len(t.cols) - 1; q >= 0; q-- {
		if !isFree(t.cols[q]) {
			continue
		}
		if r := t.eliminator(q); r >= 0 {
			t.pivot(r, q)
		}
	}
}

// eliminator returns the line of a slack by which a free column is replaced, or -1. It prefers lines that keep the objective bounded, then lines without slacks, then short ones: for the rows of a part this is a backward substitution of the units.
func (t *Tableau) eliminator(q int) int {
	best, bestRank := -1, 0
	sign := t.cost.coefs[q].Sign()
	for i, l := range t.lines {
		c := l.coefs[q]
		if isFree(l.basic) || c.IsZero() {
			continue
		}
		rank := 1
		if sign*c.Sign() < 0 {
			rank += 1 << 30
		}
		for j, x := range l.coefs[:len(t.cols)] {
			if x.IsZero() {
				continue
			}
			rank++
			if !isFree(t.cols[j]) {
				rank += 1 << 15
			}
		}
		if best < 0 || rank < bestRank {
			best, bestRank = i, rank
		}
	}
	return best
}

func (t *Tableau) isDualFeasible() bool {
	for j, number := range t.cols {
		if s := t.cost.coefs[j].Sign(); s < 0 || s != 0 && isFree(number) {
			return false
		}
	}
	return true
}

// dual is the dual simplex method for costs that are not negative.
func (t *Tableau) dual(cost []quick.Int) (outcome, api.Errno) {
	out := outcome{status: api.LPOptimal}
	stalled := 0
pivots:
	for {
		r := t.leaving(stalled >= patience)
		if r < 0 {
			break pivots
		}
		q := t.dualEntering(r, cost)
		if q < 0 {
			out = outcome{api.LPInfeasible, r}
			break pivots
		}
		if t.pivots >= api.MaxPivots {
			return outcome{}, api.ErrLimit
		}
		stalled++
		if !cost[q].IsZero() {
			stalled = 0
		}
		t.pivot(r, q)
	}
	return out, api.OK
}

// leaving returns the line of a slack with a negative constant, or -1: the one with the least constant, or by Bland's rule the least slack.
func (t *Tableau) leaving(bland bool) int {
	best := -1
	for i := range t.lines {
		l := &t.lines[i]
		if isFree(l.basic) || l.constant().Sign() >= 0 {
			continue
		}
		switch {
		case best < 0:
			best = i
		case bland && l.basic < t.lines[best].basic:
			best = i
		case !bland && isLess(l.constant(), l.den, t.lines[best].constant(), t.lines[best].den):
			best = i
		}
	}
	return best
}

// isLess reports whether a/b is less than c/d, for positive denominators.
func isLess(a, b, c, d quick.Int) bool { return compare(a, b, c, d) < 0 }

// compare compares a/b and c/d, for positive denominators.
func compare(a, b, c, d quick.Int) int {
	if sa, sc := a.Sign(), c.Sign(); sa != sc || sa == 0 {
		return sa - sc
	}
	return quick.Combine(a, d, c.Neg(), b).Sign()
}

// dualEntering returns the column of a slack with the least ratio of its cost, and the least slack among equal ones, or -1.
func (t *Tableau) dualEntering(r int, cost []quick.Int) int {
	best := -1
	row := t.lines[r].coefs
	for j, number := range t.cols {
		if isFree(number) || row[j].Sign() <= 0 {
			continue
		}
		c := -1
		if best >= 0 {
			c = compare(cost[j], row[j], cost[best], row[best])
		}
		if c < 0 || c == 0 && number < t.cols[best] {
			best = j
		}
	}
	return best
}

// primal is the primal simplex method; the constants of all slacks are nonnegative.
func (t *Tableau) primal() (outcome, api.Errno) {
	out := outcome{status: api.LPOptimal}
	stalled := 0
pivots:
	for {
		q := t.entering(stalled >= patience)
		if q < 0 {
			break pivots
		}
		r := -1
		if !isFree(t.cols[q]) {
			r = t.limiting(q)
		}
		if r < 0 {
			out = outcome{api.LPUnbounded, q}
			break pivots
		}
		if t.pivots >= api.MaxPivots {
			return outcome{}, api.ErrLimit
		}
		stalled++
		if !t.lines[r].constant().IsZero() {
			stalled = 0
		}
		t.pivot(r, q)
	}
	return out, api.OK
}

// entering returns a column whose increase lowers the objective, or -1. A free column that remains occurs in no row of a slack, so that it may change in either direction.
func (t *Tableau) entering(bland bool) int {
	best := -1
	for j, number := range t.cols {
		s := t.cost.coefs[j].Sign()
		switch {
		case isFree(number) && s != 0:
			return j
		case isFree(number) || s >= 0:
		case best < 0:
			best = j
		case bland && number < t.cols[best]:
			best = j
		case !bland && quick.Combine(t.cost.coefs[j], quick.Small(1), t.cost.coefs[best], quick.Small(-1)).Sign() < 0:
			best = j
		}
	}
	return best
}

// limiting returns the line of the slack that limits the increase of a column first, and the least slack among equal ones, or -1.
func (t *Tableau) limiting(q int) int {
	best := -1
	for i := range t.lines {
		l := &t.lines[i]
		if isFree(l.basic) || l.coefs[q].Sign() >= 0 {
			continue
		}
		c := -1
		if best >= 0 {
			b := &t.lines[best]
			c = compare(l.constant(), l.coefs[q].Neg(), b.constant(), b.coefs[q].Neg())
		}
		if c < 0 || c == 0 && l.basic < t.lines[best].basic {
			best = i
		}
	}
	return best
}

// basis returns the slacks of the columns, as the rows that determine the point.
func (t *Tableau) basis() []int {
	var out []int
	for _, number := range t.cols {
		if !isFree(number) {
			out = append(out, number)
		}
	}
	return out
}

// point returns the values of the variables where all columns are 0.
func (t *Tableau) point() []api.Rat {
	out := make([]api.Rat, t.vars)
	for i := range t.lines {
		if l := &t.lines[i]; isFree(l.basic) {
			out[free(l.basic)] = l.number(l.constant())
		}
	}
	return out
}

func (t *Tableau) optimum() api.Solution {
	dual := make([]api.Rat, t.slacks)
	for j, number := range t.cols {
		if !isFree(number) {
			dual[number] = t.cost.number(t.cost.coefs[j])
		}
	}
	return api.Solution{Status: api.LPOptimal, Value: t.cost.number(t.cost.constant()), Point: t.point(), Dual: dual, Basis: t.basis(), Pivots: t.pivots}
}

// refutation: the slack of the line is a negative constant minus nonnegative multiples of other slacks.
func (t *Tableau) refutation(r int) api.Solution {
	dual := make([]api.Rat, t.slacks)
	l := &t.lines[r]
	dual[l.basic] = rational.Of(1)
	for j, number := range t.cols {
		if !isFree(number) {
			dual[number] = l.number(l.coefs[j].Neg())
		}
	}
	return api.Solution{Status: api.LPInfeasible, Dual: dual, Basis: t.basis(), Pivots: t.pivots}
}

// direction returns how the variables change with the column.
func (t *Tableau) direction(q int) api.Solution {
	falling := t.cost.coefs[q].Sign() > 0
	ray := make([]api.Rat, t.vars)
	if isFree(t.cols[q]) {
		ray[free(t.cols[q])] = rational.Of(1)
	}
	for i := range t.lines {
		if l := &t.lines[i]; isFree(l.basic) {
			ray[free(l.basic)] = l.number(l.coefs[q])
		}
	}
	if falling {
		for v, x := range ray {
			ray[v] = rational.Neg(x)
		}
	}
	return api.Solution{Status: api.LPUnbounded, Point: t.point(), Ray: ray, Basis: t.basis(), Pivots: t.pivots}
}

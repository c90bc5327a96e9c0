package search

import (
	"relucert/api"
	"relucert/clause"
	"relucert/conflict"
	"relucert/cuts"
	"relucert/domain"
	"relucert/frontier"
	"relucert/graph"
	"relucert/linear"
	"relucert/nodelp"
	"relucert/phase"
	"relucert/rational"
	"relucert/region"
	"relucert/rows"
	"relucert/split"
)

// job is a part that waits or is in work: the view of the part above it with the decision that leads to it, or its own view.
type job struct {
	view     *rows.View
	decision api.Decision
	known    *known
	record   *record
}

// worker is a machine of steps; next is its next step, and nil when it is finished.
type worker struct {
	state *state
	next  func()
	job   *job
	point []api.Rat // of the last linear program
	op    *frontier.Op[*job]
}

// Step performs the next step.
func (w *worker) Step() bool {
	if w.state.end.Load() != nil {
		w.next = nil
	}
	if w.next != nil {
		w.next()
	}
	return w.next == nil
}

// take begins to take a job.
func (w *worker) take() {
	w.op = w.state.waiting.Take()
	w.next = w.taking
}

func (w *worker) taking() {
	if !w.op.Step() {
		return
	}
	j, status := w.op.Result()
	switch status {
	case frontier.Taken:
		w.job, w.point = j, nil
		w.next = w.open
	case frontier.Closed:
		w.next = nil
	default:
		w.next = w.take
	}
}

// open closes or divides the part by what is known, or counts it as examined.
func (w *worker) open() {
	j, s := w.job, w.state
	if j.decision.Kind != 0 {
		j.view = j.view.With(j.decision)
	}
	if j.known != nil && j.known.leaf != nil {
		w.closeBy(api.Reason{Lemmas: j.known.leaf.Lemmas, Empty: j.known.leaf.Empty, Proof: j.known.leaf.Proof})
		return
	}
	if d, ok := w.guide(); ok {
		w.divide(d)
		return
	}
	if s.examined.Load() >= int64(s.options.Nodes) {
		s.stop(result{status: api.Exhausted})
		return
	}
	s.examined.Add(1)
	w.next = w.bound
	if s.options.Learn {
		w.next = w.propagate
	}
}

// guide returns the decision by which known entries divide the part.
func (w *worker) guide() (api.Decision, bool) {
	k := w.job.known
	if k == nil || k.first == nil {
		return api.Decision{}, false
	}
	d := *k.first
	if w.state.trusted || d.Kind == api.DecOn || d.Kind == api.DecOff {
		return d, true
	}
	bisections := 0
	for _, p := range w.job.view.Path() {
		if p.Kind == api.DecAbove || p.Kind == api.DecBelow {
			bisections++
		}
	}
	return d, bisections < mostBisections
}

// propagate closes the part by a clause that is false, or divides it by a literal that is implied: then the clause closes one of the kids.
func (w *worker) propagate() {
	v := w.job.view
	w.next = w.bound
	path, e := phase.Path(v.Path(), v.Units())
	if e != api.OK {
		return
	}
	implied := -1
	for i, c := range w.state.clauses {
		switch status, open := clause.Status(c, path); {
		case status == clause.False:
			w.closeBy(w.state.reasons[i])
			return
		case status == clause.Unit && implied < 0:
			implied = c[open].Unit
		}
	}
	if implied >= 0 {
		w.divide(api.Decision{Kind: api.DecOn, Index: implied})
	}
}

// closeBy makes the part a leaf by the lemmas and the proof of a reason.
func (w *worker) closeBy(r api.Reason) {
	leaf := conflict.LeafIn(len(w.job.view.Lemmas()), r)
	*w.job.record = record{lemmas: leaf.Lemmas, empty: leaf.Empty, proof: leaf.Proof}
	w.done()
}

// bound bounds the units and the goal.
func (w *worker) bound() {
	v, s := w.job.view, w.state
	above := len(v.Lemmas())
	domain.RunIn(s.bound, v, s.options.Bits)
	w.job.record.lemmas = v.Lemmas()[above:]
	if proof, ok := clash(v); ok {
		w.leaf(true, proof)
		return
	}
	if b, proof, ok := s.bound(v, s.query.Goal); ok && rational.Sign(b) >= 0 {
		w.leaf(false, proof)
		return
	}
	w.next = w.solve
}

// clash returns a derivation that refutes a part in which a unit is decided against its bounds.
func clash(v *rows.View) ([]api.Mult, bool) {
	mults := func(rows ...api.Row) []api.Mult {
		var out []api.Mult
		for _, r := range rows {
			out = append(out, api.Mult{Row: r, Coef: rational.Of(1)})
		}
		return out
	}
	for unit := range v.Units() {
		lo, hi := v.Best(unit)
		on, isOn := v.On(unit)
		off, isOff := v.Off(unit)
		switch {
		case isOn && hi > 0 && v.Upper(unit).Neg:
			return mults(api.Row{Kind: api.RowOn, Index: unit, Lo: on}, api.Row{Kind: api.RowUpper, Index: unit, Hi: hi}), true
		case isOff && lo > 0 && rational.Sign(v.Lower(unit)) > 0:
			return mults(api.Row{Kind: api.RowOff, Index: unit, Hi: off}, api.Row{Kind: api.RowLower, Index: unit, Lo: lo}), true
		}
	}
	return nil, false
}

// leaf closes the part by a derivation, and learns from it.
func (w *worker) leaf(empty bool, proof []api.Mult) {
	r := w.job.record
	r.empty, r.proof = empty, proof
	s := w.state
	if s.options.Learn && len(s.clauses) < api.MaxClauses {
		if reason, e := conflict.LearnIn(w.job.view, empty, proof); e == api.OK {
			s.clauses = append(s.clauses, reason.Clause)
			s.reasons = append(s.reasons, reason)
		}
	}
	w.done()
}

// solve solves the linear program of the part.
func (w *worker) solve() {
	v, s := w.job.view, w.state
	program := nodelp.SolveIn
	if s.options.Cuts {
		program = cuts.LoopIn
	}
	x, e := program(v, s.query.Goal)
	switch {
	case e != api.OK && nodelp.ExactIn(v):
		s.stop(result{errno: e})
		return
	case e == api.OK && x.Status == api.LPInfeasible:
		w.leaf(true, x.Proof)
		return
	case e == api.OK && x.Status == api.LPOptimal && rational.Sign(x.Value) >= 0:
		w.leaf(false, x.Proof)
		return
	case e == api.OK && x.Status == api.LPOptimal:
		w.point = x.Point
	}
	w.next = w.examine
}

// examine looks whether the point of the linear program violates the goal, and divides the part otherwise.
func (w *worker) examine() {
	v, s := w.job.view, w.state
	if len(w.point) > 0 {
		x := w.point[:v.Inputs()]
		if violates(s.query, x) {
			s.stop(result{status: api.Broken, input: x})
			return
		}
	}
	d, e := split.ChooseIn(v, w.point, s.options.Rule)
	if e != api.OK {
		s.stop(result{errno: api.ErrLimit})
		return
	}
	w.divide(d)
}

func violates(q api.Query, x []api.Rat) bool {
	values, e := graph.Values(q.Graph, x)
	if e != api.OK || !region.Contains(q.Region, x) {
		return false
	}
	goal, _ := linear.Eval(q.Goal, values)
	return rational.Sign(goal) < 0
}

// divide makes the part an inner node. The kid that the last point belongs to is examined first.
func (w *worker) divide(d api.Decision) {
	j := w.job
	j.record.split = d
	var jobs [2]*job
	for i, decision := range [2]api.Decision{d, phase.Opposite(d)} {
		kid := &record{}
		j.record.kids = append(j.record.kids, kid)
		jobs[i] = &job{view: j.view, decision: decision, known: j.known.kid(decision), record: kid}
	}
	if w.prefersSecond(d) {
		jobs[0], jobs[1] = jobs[1], jobs[0]
	}
	w.op = w.state.waiting.Push(jobs[1])
	w.next = func() {
		if w.op.Step() {
			w.op = w.state.waiting.Push(jobs[0])
			w.next = w.pushing
		}
	}
}

func (w *worker) prefersSecond(d api.Decision) bool {
	if len(w.point) == 0 || d.Kind != api.DecOn {
		return false
	}
	pre, _ := linear.Eval(w.job.view.Pre(d.Index), w.point)
	return pre.Neg
}

func (w *worker) pushing() {
	if w.op.Step() {
		w.done()
	}
}

// done reports the part as done.
func (w *worker) done() {
	w.op = w.state.waiting.Done()
	w.next = func() {
		w.op.Step()
		w.next = w.take
	}
}

package propagate

import (
	"slices"

	"relucert/api"
)

// given marks literals that no clause implies.
const given = -1

// Watch keeps the closure of a list of clauses and a list of decisions. Each clause of at least two literals is watched through its first two: it is examined when one of them becomes false.
type Watch struct {
	units     int
	clauses   [][]int // codes of literals, in an order of their own
	decisions []api.Literal
	in        []bool
	reason    []int // the clause that implies each literal, or given
	trail     []int // the literals of the closure in the order in which they were found
	done      int   // how many of them have been processed
	conflict  int
	watches   [2 * api.MaxUnits][]int
}

// New returns a watch without clauses and decisions.
func New(units int) (*Watch, api.Errno) {
	if units < 0 || units > api.MaxUnits {
		return nil, api.ErrArg
	}
	return &Watch{units: units, in: make([]bool, 2*units), reason: make([]int, 2*units), conflict: -1}, api.OK
}

// put adds a literal to the closure.
func (w *Watch) put(code, reason int) {
	if w.in[code] {
		return
	}
	if w.in[code^1] {
		w.conflict = max(reason, w.reason[code^1])
		return
	}
	w.in[code] = true
	w.reason[code] = reason
	w.trail = append(w.trail, code)
}

func (w *Watch) isFalse(code int) bool { return w.in[code^1] }

// attach begins to watch a clause. Literals that are not false come first.
func (w *Watch) attach(i int) {
	c := w.clauses[i]
	slices.SortStableFunc(c, func(a, b int) int {
		switch {
		case w.isFalse(a) == w.isFalse(b):
			return 0
		case w.isFalse(b):
			return -1
		}
		return 1
	})
	switch {
	case len(c) == 0 || w.isFalse(c[0]):
		w.conflict = i
	case len(c) == 1 || w.isFalse(c[1]):
		w.put(c[0], i)
	}
	if len(c) > 1 {
		w.watches[c[0]] = append(w.watches[c[0]], i)
		w.watches[c[1]] = append(w.watches[c[1]], i)
	}
}

// run processes the literals of the worklist until a conflict.
func (w *Watch) run() {
	for w.conflict < 0 && w.done < len(w.trail) {
		todo := w.trail[w.done:len(w.trail):len(w.trail)]
		for _, code := range todo {
			if w.conflict >= 0 {
				return
			}
			w.done++
			w.falsify(code ^ 1)
		}
	}
}

// falsify examines the clauses that are watched through a literal, which has become false.
func (w *Watch) falsify(code int) {
	var kept []int
	for _, i := range w.watches[code] {
		if w.conflict >= 0 || !w.move(i, code) {
			kept = append(kept, i)
		}
	}
	w.watches[code] = kept
}

// move reports whether a clause is now watched through another literal; otherwise its other watched literal holds or is implied.
func (w *Watch) move(i, code int) bool {
	c := w.clauses[i]
	if c[0] == code {
		c[0], c[1] = c[1], c[0]
	}
	if w.in[c[0]] {
		return false
	}
	for k := 2; k < len(c); k++ {
		if !w.isFalse(c[k]) {
			c[1], c[k] = c[k], c[1]
			w.watches[c[1]] = append(w.watches[c[1]], i)
			return true
		}
	}
	if w.isFalse(c[0]) {
		w.conflict = i
	} else {
		w.put(c[0], i)
	}
	return false
}

// news returns the literals found since the closure had some size, without one, ordered by unit; or the conflict.
func (w *Watch) news(from, without int) ([]api.Literal, int, api.Errno) {
	if w.conflict >= 0 {
		return nil, w.conflict, api.OK
	}
	found := slices.Clone(w.trail[from:])
	slices.Sort(found)
	var out []api.Literal
	for _, c := range found {
		if c != without {
			out = append(out, literal(c))
		}
	}
	return out, -1, api.OK
}

// Add appends a clause.
func (w *Watch) Add(c api.Clause) ([]api.Literal, int, api.Errno) {
	switch {
	case w == nil:
		return nil, 0, api.ErrState
	case !inRange(c, w.units):
		return nil, 0, api.ErrArg
	case len(w.clauses) >= api.MaxClauses:
		return nil, 0, api.ErrLimit
	}
	codes := make([]int, len(c))
	for i, l := range c {
		codes[i] = code(l)
	}
	w.clauses = append(w.clauses, codes)
	from := len(w.trail)
	if w.conflict < 0 {
		w.attach(len(w.clauses) - 1)
		w.run()
	}
	return w.news(from, -1)
}

// Assign appends a decision.
func (w *Watch) Assign(l api.Literal) ([]api.Literal, int, api.Errno) {
	switch {
	case w == nil:
		return nil, 0, api.ErrState
	case l.Unit < 0 || l.Unit >= w.units:
		return nil, 0, api.ErrArg
	case w.conflict >= 0 || slices.ContainsFunc(w.decisions, func(d api.Literal) bool { return d.Unit == l.Unit }):
		return nil, 0, api.ErrState
	}
	w.decisions = append(w.decisions, l)
	from := len(w.trail)
	w.put(code(l), given)
	w.run()
	return w.news(from, code(l))
}

// Undo removes all decisions but the first ones. The closure is computed anew, because clauses that were added later may imply literals without the removed decisions.
func (w *Watch) Undo(n int) api.Errno {
	if w == nil {
		return api.ErrState
	}
	if n < 0 || n > len(w.decisions) {
		return api.ErrRange
	}
	w.decisions = w.decisions[:n]
	clear(w.in)
	w.trail, w.done, w.conflict = nil, 0, -1
	w.watches = [2 * api.MaxUnits][]int{}
	for i := range w.clauses {
		if w.conflict < 0 {
			w.attach(i)
		}
	}
	w.run()
	for _, l := range w.decisions {
		if w.conflict < 0 {
			w.put(code(l), given)
			w.run()
		}
	}
	return api.OK
}

// Phases returns the phases of the closure.
func (w *Watch) Phases() []int {
	if w == nil || w.conflict >= 0 {
		return nil
	}
	out := make([]int, w.units)
	for _, c := range w.trail {
		out[c/2] = api.PhaseOff - c%2
	}
	return out
}

// Conflict returns a violated clause, or -1.
func (w *Watch) Conflict() int {
	if w == nil {
		return -1
	}
	return w.conflict
}

// Len returns the number of decisions.
func (w *Watch) Len() int {
	if w == nil {
		return 0
	}
	return len(w.decisions)
}

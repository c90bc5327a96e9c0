package quantize

import (
	"relucert/api"
	"relucert/fixed"
	"relucert/rational"
	"relucert/shape"
)

// planner makes the plan of a problem step by step.
type planner struct {
	plan Plan
}

// Make returns the plan of a problem.
func Make(m api.Model, r api.Region, bits int) (Plan, api.Errno) {
	all, e := Magnitudes(m, r)
	if e != api.OK {
		return Plan{}, e
	}
	if bits < 1 || bits > maxBits {
		return Plan{}, api.ErrArg
	}
	p := &planner{Plan{Bits: bits}}
	if !p.input(r) {
		return Plan{}, api.ErrLimit
	}
	shapes, _, _ := shape.Of(m)
	at := m.Input
	for i, l := range m.Layers {
		if !p.layer(l, at, all[i]) {
			return Plan{}, api.ErrLimit
		}
		at = shapes[i]
	}
	return p.plan, api.OK
}

func absolute(x api.Rat) api.Rat { return api.Rat{Num: x.Num, Den: x.Den} }

func magnitude(i api.Interval) api.Rat { return rational.Max(absolute(i.Lo), absolute(i.Hi)) }

func magnitudes(l []api.Interval) []api.Rat {
	out := make([]api.Rat, len(l))
	for k, i := range l {
		out[k] = magnitude(i)
	}
	return out
}

// power returns 2^k.
func power(k int) api.Rat { return rational.Of(1 << k) }

// shiftFor returns the shift for a list of ranges, or false if there is none.
func shiftFor(l []api.Interval, bits int) (int, bool) {
	most := api.Rat{}
	for _, i := range l {
		most = rational.Max(most, magnitude(i))
	}
	for s := bits; s >= 0; s-- {
		if rational.Cmp(rational.Mul(most, power(s)), rational.Of(rangeLimit)) <= 0 {
			return s, true
		}
	}
	return 0, false
}

// half returns the greatest rounding error at a shift.
func half(shift int) api.Rat {
	x, _ := fixed.Error(shift)
	return x
}

// fits reports whether all integers have 32 bits, whatever the errors are.
func fits(v Values) bool {
	limit := rational.Of(1<<(valueBits-1) - 1)
	for i, x := range v.Range {
		if rational.Cmp(rational.Mul(rational.Add(magnitude(x), v.Err[i]), power(v.Shift)), limit) > 0 {
			return false
		}
	}
	return true
}

func (p *planner) input(r api.Region) bool {
	v := Values{}
	for i := range r.Lo {
		v.Range = append(v.Range, api.Interval{Lo: r.Lo[i], Hi: r.Hi[i]})
	}
	var ok bool
	if v.Shift, ok = shiftFor(v.Range, p.plan.Bits); !ok {
		return false
	}
	for range v.Range {
		v.Err = append(v.Err, half(v.Shift))
	}
	p.plan.In = v
	return fits(v)
}

// values returns the output of layer i, -1 being the input of the model.
func (p *planner) values(i int) Values {
	if i < 0 {
		return p.plan.In
	}
	return p.plan.Layers[i].Values
}

// layer appends the step of a layer, and reports whether the plan exists so far.
func (p *planner) layer(l api.Layer, s []int, ranges []api.Interval) bool {
	x := p.values(len(p.plan.Layers) - 1)
	step := Step{Values: Values{Shift: x.Shift, Range: ranges}}
	ok := true
	switch l.Kind {
	case api.LayerDense, api.LayerConv:
		ok = p.weighted(&step, l, fan(l, s), x)
	case api.LayerAvgPool:
		ok = p.average(&step, fan(l, s), x)
	case api.LayerMaxPool:
		for _, w := range fan(l, s) {
			most := api.Rat{}
			for _, i := range w {
				most = rational.Max(most, x.Err[i])
			}
			step.Err = append(step.Err, most)
		}
	case api.LayerRelu, api.LayerFlatten:
		step.Err = append(step.Err, x.Err...)
	case api.LayerAdd:
		ok = p.add(&step, x, p.values(l.From))
	}
	if !ok || !fits(step.Values) {
		return false
	}
	p.plan.Layers = append(p.plan.Layers, step)
	return true
}

func (p *planner) weighted(step *Step, l api.Layer, windows [][]int, x Values) bool {
	var ok bool
	if step.Shift, ok = shiftFor(step.Range, p.plan.Bits); !ok {
		return false
	}
	sumShift := x.Shift + p.plan.Bits
	if step.Weights, ok = rounded(l.Weights, p.plan.Bits); !ok {
		return false
	}
	if step.Bias, ok = rounded(l.Bias, sumShift); !ok || !sumsFit(step) {
		return false
	}
	last := api.Rat{}
	if sumShift > step.Shift {
		last = half(step.Shift)
	}
	n := len(l.Weights) / l.Out
	exact, off := differences(l.Weights, step.Weights, p.plan.Bits)
	_, biasOff := differences(l.Bias, step.Bias, sumShift)
	sizes := magnitudes(x.Range)
	for o := range l.Out {
		for _, w := range windows {
			sum := rational.Add(biasOff[o], last)
			for k, i := range w {
				if i < 0 {
					continue
				}
				sum = rational.Add(sum, rational.Mul(exact[o*n+k], x.Err[i]))
				sum = rational.Add(sum, rational.Mul(off[o*n+k], sizes[i]))
			}
			step.Err = append(step.Err, sum)
		}
	}
	return true
}

// rounded returns numbers as integers at a shift, if they can be rounded.
func rounded(l []api.Rat, shift int) ([]int64, bool) {
	out := make([]int64, len(l))
	for i, x := range l {
		n, e := fixed.Round(x, shift)
		if e != api.OK {
			return nil, false
		}
		out[i] = n
	}
	return out, true
}

// differences returns the absolute values of the numbers for which integers stand, and of their differences from the exact ones.
func differences(exact []api.Rat, l []int64, shift int) (sizes, off []api.Rat) {
	for i, n := range l {
		x, _ := fixed.Rat(n, shift)
		sizes = append(sizes, absolute(x))
		off = append(off, absolute(rational.Sub(x, exact[i])))
	}
	return sizes, off
}

// sumsFit reports whether no sum of a layer with weights exceeds the limit, for any integers of 32 bits.
func sumsFit(step *Step) bool {
	n := len(step.Weights) / len(step.Bias)
	for o, b := range step.Bias {
		left := uint64(sumLimit) - size(b)
		for _, w := range step.Weights[o*n : (o+1)*n] {
			if size(w) > left>>(valueBits-1) {
				return false
			}
			left -= size(w) << (valueBits - 1)
		}
	}
	return true
}

func size(n int64) uint64 {
	if n < 0 {
		return -uint64(n)
	}
	return uint64(n)
}

func (p *planner) average(step *Step, windows [][]int, x Values) bool {
	var ok bool
	if step.Shift, ok = shiftFor(step.Range, p.plan.Bits); !ok {
		return false
	}
	share, _ := rational.Frac(1, len(windows[0]))
	step.Mul, _ = fixed.Round(share, poolShift)
	m, _ := fixed.Rat(step.Mul, poolShift)
	off := absolute(rational.Sub(m, share))
	last := api.Rat{}
	if poolShift+x.Shift > step.Shift {
		last = half(step.Shift)
	}
	sizes := magnitudes(x.Range)
	for _, w := range windows {
		errors, total := api.Rat{}, api.Rat{}
		for _, i := range w {
			errors = rational.Add(errors, x.Err[i])
			total = rational.Add(total, sizes[i])
		}
		sum := rational.Add(rational.Mul(m, errors), rational.Mul(off, total))
		step.Err = append(step.Err, rational.Add(sum, last))
	}
	return true
}

func (p *planner) add(step *Step, x, other Values) bool {
	s, ok := shiftFor(step.Range, p.plan.Bits)
	if !ok {
		return false
	}
	step.Shift = min(s, x.Shift, other.Shift)
	last := api.Rat{}
	for _, v := range [2]Values{x, other} {
		if v.Shift > step.Shift {
			last = rational.Add(last, half(step.Shift))
		}
	}
	for i := range x.Err {
		step.Err = append(step.Err, rational.Add(rational.Add(x.Err[i], other.Err[i]), last))
	}
	return true
}

package interval

import (
	"math/rand"
	"testing"

	"relucert/api"
	"relucert/natural"
	"relucert/rational"
)

func frac(a, b int) api.Rat {
	x, _ := rational.Frac(a, b)
	return x
}

func of(lo, hi int) api.Interval { return api.Interval{Lo: rational.Of(lo), Hi: rational.Of(hi)} }

func same(a, b api.Interval) bool {
	return rational.Cmp(a.Lo, b.Lo) == 0 && rational.Cmp(a.Hi, b.Hi) == 0
}

func TestExamples(t *testing.T) {
	if p := Mul(of(1, 2), of(-3, 1)); !same(p, of(-6, 2)) {
		t.Error(p)
	}
	if r := Relu(of(-1, 2)); !same(r, of(0, 2)) {
		t.Error(r)
	}
	if r := Relu(of(-2, -1)); !same(r, of(0, 0)) {
		t.Error(r)
	}
	if m, e := Meet(of(0, 1), of(1, 2)); e != api.OK || !same(m, of(1, 1)) {
		t.Error(m, e)
	}
	if m, e := Meet(of(0, 1), of(2, 3)); e != api.ErrNone || !same(m, of(0, 0)) {
		t.Error(m, e)
	}
	third := api.Interval{Lo: frac(1, 3), Hi: frac(1, 3)}
	if r, e := Round(third, 2); e != api.OK || !same(r, api.Interval{Lo: frac(1, 4), Hi: frac(3, 8)}) {
		t.Error(r, e)
	}
	if r, e := Round(third, 0); e != api.ErrArg || !same(r, of(0, 0)) {
		t.Error(r, e)
	}
	n, _ := natural.Shl(api.Nat{1}, 1000000)
	if r, e := Round(api.Interval{Hi: api.Rat{Num: n}}, 3); e != api.ErrRange || !same(r, of(0, 0)) {
		t.Error(e)
	}
}

func TestMake(t *testing.T) {
	wide := api.Rat{Num: api.Nat{2, 0}, Den: api.Nat{4}}
	i, e := Make(wide, api.Rat{Num: api.Nat{3}, Den: api.Nat{1}})
	if e != api.OK || !Valid(i) || !same(i, api.Interval{Lo: frac(1, 2), Hi: rational.Of(3)}) {
		t.Error(i, e)
	}
	if i, e := Make(rational.Of(1), frac(1, 2)); e != api.ErrRange || !same(i, of(0, 0)) {
		t.Error(i, e)
	}
	if Valid(api.Interval{Lo: wide, Hi: rational.Of(3)}) || Valid(of(2, 1)) || !Valid(api.Interval{}) {
		t.Error("valid")
	}
	if !Contains(of(0, 1), wide) || Contains(of(0, 1), frac(-1, 9)) || !Contains(of(0, 1), rational.Of(1)) {
		t.Error("contains")
	}
	if !Within(of(0, 1), of(0, 1)) || Within(of(0, 2), of(0, 1)) || Within(of(-1, 1), of(0, 1)) {
		t.Error("within")
	}
}

func random(r *rand.Rand) api.Interval {
	a, b := frac(r.Intn(41)-20, 1+r.Intn(5)), frac(r.Intn(41)-20, 1+r.Intn(5))
	return api.Interval{Lo: rational.Min(a, b), Hi: rational.Max(a, b)}
}

// inside returns a number of an interval.
func inside(r *rand.Rand, i api.Interval) api.Rat {
	return rational.Add(i.Lo, rational.Mul(rational.Sub(i.Hi, i.Lo), frac(r.Intn(5), 4)))
}

func TestEnclosureAndInclusion(t *testing.T) {
	r := rand.New(rand.NewSource(1))
	for range 2000 {
		a, b := random(r), random(r)
		x, y, c := inside(r, a), inside(r, b), frac(r.Intn(9)-4, 1+r.Intn(3))
		partA, _ := Make(rational.Min(x, inside(r, a)), x)
		partB, _ := Make(y, rational.Max(y, inside(r, b)))
		for _, k := range []struct {
			value       api.Rat
			part, whole api.Interval
		}{
			{rational.Add(x, y), Add(partA, partB), Add(a, b)}, {rational.Mul(x, y), Mul(partA, partB), Mul(a, b)},
			{rational.Neg(x), Neg(partA), Neg(a)}, {rational.Mul(c, x), Scale(partA, c), Scale(a, c)}, {rational.Max(api.Rat{}, x), Relu(partA), Relu(a)},
		} {
			if !Valid(k.whole) || !Valid(k.part) || !Contains(k.part, k.value) || !Within(k.part, k.whole) {
				t.Fatal(a, b, k)
			}
		}
		j := Join(a, b)
		if !Within(a, j) || !Within(b, j) || (rational.Cmp(j.Lo, a.Lo) != 0 && rational.Cmp(j.Lo, b.Lo) != 0) {
			t.Fatal("join", a, b)
		}
		m, e := Meet(a, b)
		if (e == api.OK) != (Contains(a, b.Lo) || Contains(b, a.Lo)) || e == api.OK && (!Within(m, a) || !Within(m, b)) {
			t.Fatal("meet", a, b)
		}
		round, _ := Round(a, 3)
		if !Within(a, round) {
			t.Fatal("round", a)
		}
	}
}

// TestTightness checks that the ends of sums and products are those of the corners.
func TestTightness(t *testing.T) {
	r := rand.New(rand.NewSource(2))
	for range 500 {
		a, b := random(r), random(r)
		p, s := Mul(a, b), Add(a, b)
		low, high := false, false
		for _, x := range []api.Rat{a.Lo, a.Hi} {
			for _, y := range []api.Rat{b.Lo, b.Hi} {
				low = low || rational.Cmp(p.Lo, rational.Mul(x, y)) == 0
				high = high || rational.Cmp(p.Hi, rational.Mul(x, y)) == 0
			}
		}
		if !low || !high || rational.Cmp(s.Lo, rational.Add(a.Lo, b.Lo)) != 0 || rational.Cmp(s.Hi, rational.Add(a.Hi, b.Hi)) != 0 {
			t.Fatal(a, b, p, s)
		}
	}
}

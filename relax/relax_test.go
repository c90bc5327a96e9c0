package relax

import (
	"testing"

	"relucert/api"
	"relucert/rational"
	"relucert/testkit"
)

var frac = testkit.Frac

func same(a, b api.Rat) bool { return rational.Valid(a) && rational.Cmp(a, b) == 0 }

func TestExamples(t *testing.T) {
	lo, hi := rational.Of(-1), api.Rat{Num: api.Nat{6, 0}, Den: api.Nat{2}}
	slope, upper, offset, e := Lines(lo, hi)
	if slope != 1 || !same(upper, frac(3, 4)) || !same(offset, frac(3, 4)) || e != api.OK || !same(Gap(lo, hi), frac(3, 4)) {
		t.Error(slope, upper, offset, e)
	}
	for _, c := range []struct{ s, want api.Rat }{{api.Rat{}, frac(9, 2)}, {rational.Of(1), frac(1, 2)}, {frac(1, 2), frac(5, 2)}} {
		if a, e := Area(lo, hi, c.s); e != api.OK || !same(a, c.want) {
			t.Error(c, a, e)
		}
	}
	if Slope(rational.Of(-2), rational.Of(2)) != 0 || Slope(rational.Of(-2), rational.Of(3)) != 1 || Slope(rational.Of(1), rational.Of(3)) != 0 {
		t.Error("slope")
	}
}

func TestErrors(t *testing.T) {
	minus, zero, one := rational.Of(-1), api.Rat{}, rational.Of(1)
	for _, c := range []struct{ lo, hi api.Rat }{{zero, one}, {minus, zero}, {one, minus}, {zero, zero}, {api.Rat{Neg: true}, one}} {
		slope, upper, offset, e := Lines(c.lo, c.hi)
		area, f := Area(c.lo, c.hi, zero)
		l, h := Upper(0, 1, 1, c.lo, c.hi)
		if e != api.ErrRange || f != api.ErrRange || h != api.ErrRange || slope != 0 || len(upper.Num)+len(offset.Num)+len(area.Num)+len(l) != 0 || Unstable(c.lo, c.hi) || len(Gap(c.lo, c.hi).Num) != 0 {
			t.Error(c, e, f, h)
		}
		if _, h := Upper(-1, 1, 1, c.lo, c.hi); h != api.ErrArg {
			t.Error(h)
		}
	}
	for _, s := range []api.Rat{frac(-1, 9), frac(10, 9)} {
		if a, e := Area(minus, one, s); e != api.ErrRange || len(a.Num) != 0 {
			t.Error(s, e)
		}
	}
	for _, c := range [][3]int{{-1, 1, 1}, {0, 0, 1}, {0, 1, 0}} {
		if l, e := Upper(c[0], c[1], c[2], minus, one); e != api.ErrArg || len(l) != 0 {
			t.Error(c, e)
		}
	}
	for _, c := range [][2]int{{-1, 0}, {0, 2}, {0, -1}} {
		if l, e := Lower(c[0], c[1]); e != api.ErrArg || len(l) != 0 {
			t.Error(c, e)
		}
	}
}

func TestRows(t *testing.T) {
	l, e := Upper(4, 2, 3, rational.Of(-1), rational.Of(3))
	if e != api.OK || len(l) != 1 || l[0].Row != (api.Row{Kind: api.RowTri, Index: 4, Lo: 2, Hi: 3}) || !same(l[0].Coef, frac(1, 4)) {
		t.Error(l, e)
	}
	for slope, kind := range []int{api.RowZero, api.RowAbove} {
		l, e := Lower(4, slope)
		if e != api.OK || len(l) != 1 || l[0].Row != (api.Row{Kind: kind, Index: 4}) || !same(l[0].Coef, rational.Of(1)) {
			t.Error(l, e)
		}
	}
}

// TestRelaxation compares the lines with the rectifier.
func TestRelaxation(t *testing.T) {
	for i := range 36 {
		lo, hi := frac(-1-i/6, 2), frac(1+i%6, 2)
		_, upper, offset, _ := Lines(lo, hi)
		least, _ := Area(lo, hi, rational.Of(Slope(lo, hi)))
		for k := range 9 {
			share := frac(k, 8)
			p := rational.Add(lo, rational.Mul(share, rational.Sub(hi, lo)))
			v := rational.Max(api.Rat{}, p)
			above := rational.Sub(rational.Add(rational.Mul(upper, p), offset), v)
			if rational.Cmp(rational.Mul(share, p), v) > 0 || rational.Sign(above) < 0 || rational.Cmp(above, Gap(lo, hi)) > 0 || (rational.Sign(above) == 0) != (k == 0 || k == 8) {
				t.Fatal(lo, hi, p)
			}
			if a, _ := Area(lo, hi, share); rational.Cmp(a, least) < 0 {
				t.Fatal("area", lo, hi, share)
			}
		}
		if !same(Gap(lo, hi), offset) {
			t.Fatal("gap")
		}
	}
}

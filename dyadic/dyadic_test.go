package dyadic

import (
	"math/rand"
	"slices"
	"testing"

	"relucert/api"
	"relucert/natural"
	"relucert/rational"
)

func frac(a, b int) api.Rat {
	x, _ := rational.Frac(a, b)
	return x
}

func dy(m int, exp int) api.Dyadic {
	if m < 0 {
		return api.Dyadic{Neg: true, Mag: natural.Of(uint64(-m)), Exp: exp}
	}
	return api.Dyadic{Mag: natural.Of(uint64(m)), Exp: exp}
}

func same(a, b api.Dyadic) bool {
	return a.Neg == b.Neg && a.Exp == b.Exp && slices.Equal(a.Mag, b.Mag)
}

func TestExamples(t *testing.T) {
	for _, c := range []struct {
		x        api.Rat
		bits     int
		down, up api.Dyadic
	}{
		{frac(1, 3), 2, dy(1, -2), dy(3, -3)}, {frac(5, 1), 2, dy(1, 2), dy(3, 1)}, {frac(-1, 3), 2, dy(-3, -3), dy(-1, -2)},
		{frac(0, 1), 1, api.Dyadic{}, api.Dyadic{}}, {frac(7, 1), 2, dy(3, 1), dy(1, 3)}, {frac(7, 1), 3, dy(7, 0), dy(7, 0)}, {frac(-7, 8), 1, dy(-1, 0), dy(-1, -1)},
	} {
		down, e := Down(c.x, c.bits)
		up, f := Up(c.x, c.bits)
		if e != api.OK || f != api.OK || !same(down, c.down) || !same(up, c.up) {
			t.Error(c, down, up)
		}
	}
	if d, ok := Exact(frac(3, 8)); !ok || !same(d, dy(3, -3)) {
		t.Error(d, ok)
	}
	if d, ok := Exact(frac(1, 3)); ok || !same(d, api.Dyadic{}) {
		t.Error(d, ok)
	}
	if d, ok := Exact(api.Rat{Num: api.Nat{12}, Den: api.Nat{6, 0}}); !ok || !same(d, dy(1, 1)) {
		t.Error(d, ok)
	}
}

func TestValid(t *testing.T) {
	for _, d := range []api.Dyadic{{Neg: true}, {Exp: 1}, dy(2, 0), {Mag: api.Nat{1, 0}}, dy(1, api.MaxShift+1), dy(1, -api.MaxShift-1)} {
		if Valid(d) {
			t.Error(d)
		}
	}
	for _, d := range []api.Dyadic{{}, dy(-3, 5), dy(1, api.MaxShift), dy(1, -api.MaxShift)} {
		if !Valid(d) {
			t.Error(d)
		}
	}
}

func power(k int) api.Rat {
	if k < 0 {
		d, _ := natural.Shl(api.Nat{1}, -k)
		return api.Rat{Num: api.Nat{1}, Den: d}
	}
	n, _ := natural.Shl(api.Nat{1}, k)
	return api.Rat{Num: n}
}

func TestRange(t *testing.T) {
	x := frac(1, 3)
	for _, bits := range []int{0, -1, 4097} {
		if d, e := Down(x, bits); e != api.ErrArg || !same(d, api.Dyadic{}) {
			t.Error(bits, e)
		}
	}
	for _, c := range []struct {
		x api.Rat
		e api.Errno
	}{
		{power(1000000), api.ErrRange}, {power(-1000000), api.OK}, {power(-1000001), api.ErrRange}, {power(999999), api.OK},
		{rational.Sub(power(1000000), rational.Of(1)), api.OK}, {rational.Neg(power(1000000)), api.ErrRange},
		{rational.Mul(power(-1000000), frac(999, 1000)), api.ErrRange}, {rational.Mul(power(-1000000), frac(1001, 1000)), api.OK},
		{rational.Mul(power(999999), frac(1999, 1000)), api.OK}, {rational.Mul(power(999999), frac(2001, 1000)), api.ErrRange},
	} {
		if _, e := Down(c.x, 7); e != c.e {
			t.Error("down", natural.Bits(c.x.Num), natural.Bits(c.x.Den), e)
		}
		if _, e := Up(c.x, 7); e != c.e {
			t.Error("up", natural.Bits(c.x.Num), natural.Bits(c.x.Den), e)
		}
	}
	if d, e := Down(power(-1000000), 0); e != api.ErrArg || !same(d, api.Dyadic{}) {
		t.Error(e)
	}
}

func TestExponents(t *testing.T) {
	top, bottom := dy(1, api.MaxShift), dy(1, -api.MaxShift)
	if d, e := Add(top, top); e != api.ErrRange || !same(d, api.Dyadic{}) {
		t.Error(e)
	}
	if d, e := Mul(bottom, dy(1, -1)); e != api.ErrRange || !same(d, api.Dyadic{}) {
		t.Error(e)
	}
	if d, e := Mul(top, bottom); e != api.OK || !same(d, dy(1, 0)) {
		t.Error(d, e)
	}
	s, e := Add(top, bottom)
	if e != api.OK || s.Exp != -api.MaxShift || natural.Bits(s.Mag) != 2*api.MaxShift+1 {
		t.Error(e)
	}
	if Cmp(s, top) != 1 || Cmp(top, bottom) != 1 || Cmp(Neg(top), bottom) != -1 || Cmp(api.Dyadic{}, bottom) != -1 || Cmp(Neg(top), Neg(bottom)) != -1 {
		t.Error("cmp")
	}
	back, e := Add(s, Neg(bottom))
	if e != api.OK || !same(back, top) {
		t.Error("sum", e)
	}
	if z, e := Add(top, Neg(top)); e != api.OK || !same(z, api.Dyadic{}) {
		t.Error(z, e)
	}
	if z, e := Add(api.Dyadic{}, bottom); e != api.OK || !same(z, bottom) {
		t.Error(z, e)
	}
}

func random(r *rand.Rand) api.Rat {
	n := natural.Mul(natural.Of(r.Uint64()>>r.Intn(64)), natural.Of(r.Uint64()>>r.Intn(64)))
	d := natural.Mul(natural.Of(r.Uint64()>>r.Intn(64)), natural.Of(r.Uint64()>>r.Intn(64)))
	return rational.Canon(api.Rat{Neg: r.Intn(2) == 0, Num: n, Den: d})
}

func TestRounding(t *testing.T) {
	r := rand.New(rand.NewSource(1))
	for range 3000 {
		x, y, bits := random(r), random(r), 1+r.Intn(20)
		down, _ := Down(x, bits)
		up, _ := Up(x, bits)
		if !Valid(down) || !Valid(up) || natural.Bits(down.Mag) > bits || natural.Bits(up.Mag) > bits {
			t.Fatal("form", x, bits)
		}
		lo, hi := Rat(down), Rat(up)
		if !rational.Valid(lo) || rational.Cmp(lo, x) > 0 || rational.Cmp(hi, x) < 0 {
			t.Fatal("enclosure", x, lo, hi)
		}
		limit := rational.Mul(api.Rat{Num: x.Num, Den: x.Den}, power(1-bits))
		if rational.Cmp(rational.Sub(hi, lo), limit) > 0 {
			t.Fatal("distance", x, lo, hi)
		}
		d, exact := Exact(x)
		short := exact && natural.Bits(d.Mag) <= bits
		if short != (rational.Cmp(lo, x) == 0) || short != (rational.Cmp(hi, x) == 0) {
			t.Fatal("exact", x, bits)
		}
		minus, _ := Down(rational.Neg(x), bits)
		if !same(minus, Neg(up)) {
			t.Fatal("symmetry", x)
		}
		other, _ := Down(y, bits)
		if c := rational.Cmp(x, y); c*Cmp(down, other) < 0 {
			t.Fatal("monotony", x, y)
		}
		more, _ := Down(x, bits+1)
		if Cmp(more, down) < 0 {
			t.Fatal("more bits", x)
		}
	}
}

func TestArithmetic(t *testing.T) {
	r := rand.New(rand.NewSource(2))
	for range 2000 {
		a, _ := Down(random(r), 1+r.Intn(90))
		b, _ := Up(random(r), 1+r.Intn(90))
		s, _ := Add(a, b)
		p, _ := Mul(a, b)
		x, y := Rat(a), Rat(b)
		if !Valid(s) || !Valid(p) || rational.Cmp(Rat(s), rational.Add(x, y)) != 0 || rational.Cmp(Rat(p), rational.Mul(x, y)) != 0 || Cmp(a, b) != rational.Cmp(x, y) {
			t.Fatal(a, b, s, p)
		}
		if back, ok := Exact(x); !ok || !same(back, a) {
			t.Fatal("exact", a)
		}
	}
}

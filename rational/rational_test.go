package rational

import (
	"math/big"
	"math/rand"
	"slices"
	"testing"

	"relucert/api"
	"relucert/integer"
	"relucert/natural"
)

func natBig(n api.Nat) *big.Int {
	x := new(big.Int)
	for i := len(n) - 1; i >= 0; i-- {
		x.Lsh(x, 32)
		x.Or(x, big.NewInt(int64(n[i])))
	}
	return x
}

func toBig(x api.Rat) *big.Rat {
	d := natBig(x.Den)
	if d.Sign() == 0 {
		d.SetInt64(1)
	}
	q := new(big.Rat).SetFrac(natBig(x.Num), d)
	if x.Neg {
		q.Neg(q)
	}
	return q
}

func nat(r *rand.Rand) api.Nat {
	n := make(api.Nat, r.Intn(4))
	for i := range n {
		n[i] = r.Uint32() >> r.Intn(33)
	}
	return n
}

// random returns a number that need not be canonical.
func random(r *rand.Rand) api.Rat {
	if r.Intn(2) == 0 {
		return api.Rat{Neg: r.Intn(2) == 0, Num: api.Nat{uint32(r.Intn(20))}, Den: api.Nat{uint32(r.Intn(20))}}
	}
	x := api.Rat{Neg: r.Intn(2) == 0, Num: nat(r), Den: nat(r)}
	if r.Intn(3) == 0 {
		k := natural.Of(uint64(r.Uint32()) * 5)
		x.Num, x.Den = natural.Mul(x.Num, k), natural.Mul(x.Den, k)
	}
	return x
}

func same(a, b api.Rat) bool {
	return a.Neg == b.Neg && slices.Equal(a.Num, b.Num) && slices.Equal(a.Den, b.Den)
}

func expect(t *testing.T, what string, got api.Rat, want *big.Rat) {
	t.Helper()
	if !Valid(got) || toBig(got).Cmp(want) != 0 {
		t.Fatal(what, got, want)
	}
}

func TestAgainstBig(t *testing.T) {
	r := rand.New(rand.NewSource(1))
	for range 10000 {
		a, b := random(r), random(r)
		x, y := toBig(a), toBig(b)
		expect(t, "canon", Canon(a), x)
		if Valid(a) != same(a, Canon(a)) {
			t.Fatal("valid", a)
		}
		expect(t, "neg", Neg(a), new(big.Rat).Neg(x))
		expect(t, "add", Add(a, b), new(big.Rat).Add(x, y))
		expect(t, "sub", Sub(a, b), new(big.Rat).Sub(x, y))
		expect(t, "mul", Mul(a, b), new(big.Rat).Mul(x, y))
		q, e := Div(a, b)
		if y.Sign() != 0 {
			expect(t, "div", q, new(big.Rat).Quo(x, y))
		} else if e != api.ErrDivide || !same(q, api.Rat{}) {
			t.Fatal("div", a, b)
		}
		c := x.Cmp(y)
		if Cmp(a, b) != c || Sign(a) != x.Sign() || (Cmp(Canon(a), Canon(b)) == 0) != same(Canon(a), Canon(b)) {
			t.Fatal("cmp", a, b)
		}
		low, high := x, y
		if c > 0 {
			low, high = y, x
		}
		expect(t, "min", Min(a, b), low)
		expect(t, "max", Max(a, b), high)
		if natBig(Den(a)).Cmp(x.Denom()) != 0 || natBig(Num(a).Mag).CmpAbs(x.Num()) != 0 || integer.Sign(Num(a)) != x.Sign() {
			t.Fatal("parts", a)
		}
		floor := new(big.Int).Div(x.Num(), x.Denom())
		f := Floor(a)
		if !integer.Valid(f) || natBig(f.Mag).CmpAbs(floor) != 0 || integer.Sign(f) != floor.Sign() {
			t.Fatal("floor", a, f)
		}
	}
}

func frac(a, b int) api.Rat {
	x, _ := Frac(a, b)
	return x
}

func TestExamples(t *testing.T) {
	if !same(Add(frac(1, 2), frac(1, 3)), frac(5, 6)) {
		t.Error("sum")
	}
	if n, _ := integer.Int(Floor(frac(-7, 2))); n != -4 {
		t.Error("floor")
	}
	for _, c := range []struct{ lo, hi, want api.Rat }{
		{frac(3, 10), frac(2, 5), frac(1, 3)}, {frac(-1, 2), Of(5), Of(0)}, {frac(13, 5), frac(31, 10), Of(3)},
		{frac(5, 3), frac(7, 4), frac(5, 3)}, {frac(-31, 10), frac(-13, 5), Of(-3)}, {Of(2), Of(9), Of(2)}, {frac(-7, 2), frac(-1, 3), Of(-1)},
	} {
		if s, e := Simplest(c.lo, c.hi); e != api.OK || !same(s, c.want) {
			t.Error(c, s, e)
		}
	}
	if s, e := Simplest(Of(2), Of(1)); e != api.ErrRange || !same(s, api.Rat{}) {
		t.Error(s, e)
	}
	if x, e := Frac(1, 0); e != api.ErrDivide || !same(x, api.Rat{}) {
		t.Error(x, e)
	}
	if x, e := Make(integer.Of(3), api.Int{Mag: api.Nat{0}}); e != api.ErrDivide || !same(x, api.Rat{}) {
		t.Error(x, e)
	}
	if !same(frac(-6, -4), frac(3, 2)) || !same(frac(0, -5), api.Rat{}) || !same(frac(-1<<63, 1<<62), Of(-2)) {
		t.Error("frac")
	}
}

func TestValid(t *testing.T) {
	for _, x := range []api.Rat{{Neg: true}, {Den: api.Nat{1}}, {Num: api.Nat{2}, Den: api.Nat{1}}, {Num: api.Nat{2}, Den: api.Nat{4}}, {Num: api.Nat{1, 0}}, {Num: api.Nat{1}, Den: api.Nat{0}}} {
		if Valid(x) {
			t.Error(x)
		}
	}
	if !Valid(api.Rat{}) || !Valid(api.Rat{Neg: true, Num: api.Nat{3}, Den: api.Nat{4}}) {
		t.Error("valid")
	}
}

// TestSimplest compares with all fractions of small denominators.
func TestSimplest(t *testing.T) {
	r := rand.New(rand.NewSource(2))
	for range 300 {
		a, b := frac(r.Intn(61)-30, 1+r.Intn(12)), frac(r.Intn(61)-30, 1+r.Intn(12))
		if Cmp(a, b) > 0 {
			a, b = b, a
		}
		got, _ := Simplest(a, b)
		if want := bySearch(a, b); !same(got, want) {
			t.Fatal(a, b, got, want)
		}
	}
}

func bySearch(a, b api.Rat) api.Rat {
	for d := 1; ; d++ {
		for n := 0; n <= 31*d; n++ {
			for _, x := range []api.Rat{frac(n, d), frac(-n, d)} {
				if Cmp(a, x) <= 0 && Cmp(x, b) <= 0 {
					return x
				}
			}
		}
	}
}

func TestLaws(t *testing.T) {
	r := rand.New(rand.NewSource(3))
	for range 1000 {
		a, b, c := random(r), random(r), random(r)
		if !same(Mul(a, Add(b, c)), Add(Mul(a, b), Mul(a, c))) || !same(Sub(Add(a, b), b), Canon(a)) {
			t.Fatal("field", a, b, c)
		}
		if Cmp(a, b) != Cmp(Add(a, c), Add(b, c)) {
			t.Fatal("order", a, b, c)
		}
		if Sign(c) > 0 && Cmp(a, b) != Cmp(Mul(a, c), Mul(b, c)) {
			t.Fatal("order", a, b, c)
		}
		if q, e := Div(Mul(a, c), c); Sign(c) != 0 && (e != api.OK || !same(q, Canon(a))) {
			t.Fatal("division", a, c)
		}
	}
}

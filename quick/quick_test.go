package quick

import (
	"math/rand"
	"testing"

	"relucert/api"
	"relucert/rational"
)

func random(r *rand.Rand) api.Rat {
	num, den := int(r.Uint64()>>r.Intn(64)), int(r.Uint64()>>(1+r.Intn(63)))
	x, e := rational.Frac(num, den)
	if e != api.OK {
		return rational.Of(num)
	}
	if r.Intn(5) == 0 {
		return rational.Mul(x, rational.Of(int(r.Uint64())))
	}
	return x
}

func TestAgainstRational(t *testing.T) {
	r := rand.New(rand.NewSource(1))
	same := func(what string, got Num, want api.Rat) {
		t.Helper()
		if x := got.Rat(); !rational.Valid(x) || rational.Cmp(x, want) != 0 || got.Sign() != rational.Sign(want) || got.IsZero() != (rational.Sign(want) == 0) {
			t.Fatal(what, x, want)
		}
	}
	for i := range 50000 {
		a, b := random(r), random(r)
		if i%3 == 0 {
			a, _ = rational.Frac(r.Intn(20)-10, 1+r.Intn(9))
			b, _ = rational.Frac(r.Intn(20)-10, 1+r.Intn(9))
		}
		x, y := Of(a), Of(b)
		same("of", x, a)
		same("neg", x.Neg(), rational.Neg(a))
		same("add", x.Add(y), rational.Add(a, b))
		same("sub", x.Sub(y), rational.Sub(a, b))
		same("mul", x.Mul(y), rational.Mul(a, b))
		if x.Cmp(y) != rational.Cmp(a, b) {
			t.Fatal("cmp", a, b)
		}
		if !x.IsZero() {
			q, _ := rational.Div(rational.Of(1), a)
			same("inv", x.Inv(), q)
		}
	}
	same("one", One(), rational.Of(1))
	same("zero", Num{}, api.Rat{})
}

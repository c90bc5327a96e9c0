package quick

import (
	"math"
	"math/big"
	"math/rand"
	"testing"

	"relucert/api"
	"relucert/integer"
)

func toBig(x Int) *big.Int {
	v := x.Value()
	n := new(big.Int)
	for i := len(v.Mag) - 1; i >= 0; i-- {
		n.Lsh(n, 32)
		n.Or(n, big.NewInt(int64(v.Mag[i])))
	}
	if v.Neg {
		n.Neg(n)
	}
	return n
}

func random(r *rand.Rand) Int {
	switch r.Intn(8) {
	case 0:
		return Small(math.MaxInt64)
	case 1:
		return Small(-math.MaxInt64)
	case 2:
		return Small(r.Intn(3) - 1)
	case 3:
		mag := make(api.Nat, 2+r.Intn(4))
		for i := range mag {
			mag[i] = r.Uint32() | 1<<31
		}
		return Of(r.Intn(2) == 0, mag)
	}
	return Small(int(r.Uint64()>>1) >> r.Intn(63) * (1 - 2*r.Intn(2)))
}

func TestAgainstBig(t *testing.T) {
	r := rand.New(rand.NewSource(1))
	same := func(what string, got Int, want *big.Int) {
		t.Helper()
		if toBig(got).Cmp(want) != 0 || got.Sign() != want.Sign() || got.IsZero() != (want.Sign() == 0) || !integer.Valid(got.Value()) || (got.big == nil) != want.IsInt64() && want.CmpAbs(new(big.Int).Lsh(big.NewInt(1), 63)) != 0 {
			t.Fatal(what, got, want)
		}
	}
	for range 100000 {
		a, b, c, d := random(r), random(r), random(r), random(r)
		x, y := toBig(a), toBig(b)
		sum := new(big.Int).Mul(x, y)
		same("mul", a.Mul(b), sum)
		sum = new(big.Int).Add(sum, new(big.Int).Mul(toBig(c), toBig(d)))
		same("combine", Combine(a, b, c, d), sum)
		same("neg", a.Neg(), new(big.Int).Neg(x))
		g := new(big.Int).GCD(nil, nil, new(big.Int).Abs(x), new(big.Int).Abs(y))
		same("gcd", Gcd(a, b), g)
		if g.Sign() > 0 {
			same("quo", a.Quo(Gcd(a, b)), new(big.Int).Quo(x, g))
		}
	}
	if !Small(1).IsOne() || Small(-1).IsOne() || !Small(0).IsZero() {
		t.Error("one")
	}
}

package integer

import (
	"math/big"
	"math/rand"
	"testing"

	"relucert/api"
	"relucert/natural"
)

func toBig(x api.Int) *big.Int {
	n := new(big.Int)
	for i := len(x.Mag) - 1; i >= 0; i-- {
		n.Lsh(n, 32)
		n.Or(n, big.NewInt(int64(x.Mag[i])))
	}
	if x.Neg {
		n.Neg(n)
	}
	return n
}

func random(r *rand.Rand) api.Int {
	x := api.Int{Neg: r.Intn(2) == 0, Mag: make(api.Nat, r.Intn(4))}
	for i := range x.Mag {
		x.Mag[i] = r.Uint32() >> r.Intn(33)
	}
	return x
}

func expect(t *testing.T, what string, got api.Int, want *big.Int) {
	t.Helper()
	if !Valid(got) || toBig(got).Cmp(want) != 0 {
		t.Fatal(what, got, want)
	}
}

func TestAgainstBig(t *testing.T) {
	r := rand.New(rand.NewSource(1))
	for range 5000 {
		a, b := random(r), random(r)
		x, y := toBig(a), toBig(b)
		expect(t, "make", Make(a.Neg, a.Mag), x)
		expect(t, "neg", Neg(a), new(big.Int).Neg(x))
		expect(t, "add", Add(a, b), new(big.Int).Add(x, y))
		expect(t, "sub", Sub(a, b), new(big.Int).Sub(x, y))
		expect(t, "mul", Mul(a, b), new(big.Int).Mul(x, y))
		if Cmp(a, b) != x.Cmp(y) || Sign(a) != x.Sign() {
			t.Fatal("cmp", a, b)
		}
		n, ok := Int(a)
		if ok != x.IsInt64() || ok && int64(n) != x.Int64() || !ok && n != 0 {
			t.Fatal("int", a)
		}
		q, m, e := DivMod(a, b)
		if y.Sign() == 0 {
			if e != api.ErrDivide || len(q.Mag)+len(m.Mag) != 0 || q.Neg || m.Neg {
				t.Fatal("divide", a, b)
			}
			continue
		}
		bq, bm := new(big.Int).DivMod(x, y, new(big.Int))
		expect(t, "quotient", q, bq)
		expect(t, "remainder", m, bm)
	}
}

func TestEdges(t *testing.T) {
	if z := Make(true, nil); z.Neg || len(z.Mag) != 0 {
		t.Error(z)
	}
	if z := Make(true, api.Nat{0, 0}); z.Neg || len(z.Mag) != 0 {
		t.Error(z)
	}
	for _, x := range []int{0, 1, -1, 1<<63 - 1, -1 << 63} {
		n, ok := Int(Of(x))
		if !Valid(Of(x)) || !ok || n != x {
			t.Error(x, n, ok)
		}
	}
	two63 := api.Nat{0, 1 << 31}
	if n, ok := Int(api.Int{Mag: two63}); ok || n != 0 {
		t.Error("2^63")
	}
	if n, ok := Int(api.Int{Neg: true, Mag: two63}); !ok || n != -1<<63 {
		t.Error("-2^63")
	}
	if Valid(api.Int{Neg: true}) || Valid(api.Int{Mag: api.Nat{1, 0}}) || !Valid(api.Int{}) {
		t.Error("valid")
	}
	for _, c := range []struct{ a, b, q, r int }{{-7, 2, -4, 1}, {-7, -2, 4, 1}, {7, -2, -3, 1}, {-6, 3, -2, 0}} {
		q, r, e := DivMod(Of(c.a), Of(c.b))
		if e != api.OK || Cmp(q, Of(c.q)) != 0 || Cmp(r, Of(c.r)) != 0 {
			t.Error(c, q, r, e)
		}
	}
}

func TestLaws(t *testing.T) {
	r := rand.New(rand.NewSource(2))
	for range 1000 {
		a, b, c := random(r), random(r), random(r)
		if Sign(Add(a, Neg(a))) != 0 {
			t.Fatal("negated", a)
		}
		if Cmp(Mul(a, Add(b, c)), Add(Mul(a, b), Mul(a, c))) != 0 {
			t.Fatal("distribution", a, b, c)
		}
		if Cmp(a, b) != Cmp(Add(a, c), Add(b, c)) {
			t.Fatal("order", a, b, c)
		}
		minus := api.Int{Neg: true, Mag: natural.Of(3)}
		if Cmp(a, b) != -Cmp(Mul(a, minus), Mul(b, minus)) {
			t.Fatal("reversed order", a, b)
		}
	}
}

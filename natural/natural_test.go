package natural

import (
	"math/big"
	"math/rand"
	"slices"
	"testing"

	"relucert/api"
)

func toBig(n api.Nat) *big.Int {
	x := new(big.Int)
	for i := len(n) - 1; i >= 0; i-- {
		x.Lsh(x, 32)
		x.Or(x, big.NewInt(int64(n[i])))
	}
	return x
}

// random returns a number, often with limbs 0 or all ones, and sometimes not canonical.
func random(r *rand.Rand, limbs int) api.Nat {
	n := make(api.Nat, r.Intn(limbs+1))
	for i := range n {
		switch r.Intn(4) {
		case 0:
			n[i] = 0
		case 1:
			n[i] = 1<<32 - 1
		default:
			n[i] = r.Uint32() >> r.Intn(32)
		}
	}
	return n
}

func expect(t *testing.T, what string, got api.Nat, want *big.Int) {
	t.Helper()
	if !Valid(got) || toBig(got).Cmp(want) != 0 {
		t.Fatal(what, got, want)
	}
}

func TestAgainstBig(t *testing.T) {
	r := rand.New(rand.NewSource(1))
	for i := range 6000 {
		size := 6
		if i%20 == 0 {
			size = 300
		}
		a, b := random(r, size), random(r, size)
		ca, cb := slices.Clone(a), slices.Clone(b)
		x, y := toBig(a), toBig(b)
		expect(t, "make", Make(a), x)
		expect(t, "add", Add(a, b), new(big.Int).Add(x, y))
		expect(t, "mul", Mul(a, b), new(big.Int).Mul(x, y))
		expect(t, "gcd", Gcd(a, b), new(big.Int).GCD(nil, nil, x, y))
		if Cmp(a, b) != x.Cmp(y) || Bits(a) != x.BitLen() {
			t.Fatal("cmp", a, b)
		}
		d, e := Sub(a, b)
		if x.Cmp(y) < 0 {
			if e != api.ErrRange || len(d) != 0 {
				t.Fatal("sub", a, b)
			}
		} else {
			expect(t, "sub", d, new(big.Int).Sub(x, y))
		}
		q, m, e := DivMod(a, b)
		if y.Sign() == 0 {
			if e != api.ErrDivide || len(q)+len(m) != 0 {
				t.Fatal("divide", a, b)
			}
		} else {
			bq, bm := new(big.Int).DivMod(x, y, new(big.Int))
			expect(t, "quotient", q, bq)
			expect(t, "remainder", m, bm)
		}
		k := r.Intn(200)
		l, _ := Shl(a, k)
		s, _ := Shr(a, k)
		expect(t, "shl", l, new(big.Int).Lsh(x, uint(k)))
		expect(t, "shr", s, new(big.Int).Rsh(x, uint(k)))
		u, ok := Uint(a)
		if ok != x.IsUint64() || ok && u != x.Uint64() || !ok && u != 0 {
			t.Fatal("uint", a)
		}
		if !slices.Equal(a, ca) || !slices.Equal(b, cb) {
			t.Fatal("an argument was modified")
		}
	}
}

func TestExamples(t *testing.T) {
	if d, e := Sub(api.Nat{0, 1}, Of(1)); e != api.OK || !slices.Equal(d, api.Nat{4294967295}) {
		t.Error(d, e)
	}
	q, m, e := DivMod(api.Nat{0, 0, 1}, api.Nat{1, 1})
	if e != api.OK || !slices.Equal(q, api.Nat{4294967295}) || !slices.Equal(m, api.Nat{1}) {
		t.Error(q, m, e)
	}
	if !slices.Equal(Gcd(Of(12), Of(18)), api.Nat{6}) || len(Gcd(nil, nil)) != 0 {
		t.Error("gcd")
	}
	if Bits(nil) != 0 || Bits(api.Nat{0, 1}) != 33 {
		t.Error("bits")
	}
}

func TestShiftLimits(t *testing.T) {
	for _, k := range []int{-1, api.MaxShift + 1, -1 << 63, 1<<63 - 1} {
		if l, e := Shl(Of(1), k); e != api.ErrRange || len(l) != 0 {
			t.Error(k, e)
		}
		if s, e := Shr(Of(1), k); e != api.ErrRange || len(s) != 0 {
			t.Error(k, e)
		}
	}
	l, e := Shl(Of(3), api.MaxShift)
	if e != api.OK || Bits(l) != api.MaxShift+2 {
		t.Error(e)
	}
	if s, e := Shr(l, api.MaxShift); e != api.OK || !slices.Equal(s, Of(3)) {
		t.Error(s, e)
	}
}

func TestLaws(t *testing.T) {
	r := rand.New(rand.NewSource(2))
	for range 500 {
		a, b, c := random(r, 5), random(r, 5), random(r, 5)
		if Cmp(a, b) != Cmp(Add(a, c), Add(b, c)) || Cmp(a, b) != -Cmp(b, a) {
			t.Fatal("order", a, b, c)
		}
		if Cmp(Mul(a, Add(b, c)), Add(Mul(a, b), Mul(a, c))) != 0 {
			t.Fatal("distribution", a, b, c)
		}
		if Cmp(Gcd(Mul(c, a), Mul(c, b)), Mul(c, Gcd(a, b))) != 0 {
			t.Fatal("divisors", a, b, c)
		}
	}
}

func TestNoSharedMemory(t *testing.T) {
	a := api.Nat{1, 2, 3}
	m := Make(a)
	s, _ := Shl(a, 0)
	h, _ := Shr(a, 0)
	d, _ := Sub(a, nil)
	_, rest, _ := DivMod(a, api.Nat{0, 0, 0, 1})
	for _, n := range []api.Nat{m, s, h, d, rest, Add(a, nil), Gcd(a, nil)} {
		if len(n) == 0 {
			t.Fatal("empty")
		}
		n[0] = 99
	}
	if a[0] != 1 {
		t.Error("a result shares memory with an argument")
	}
}

func TestLargeGcd(t *testing.T) {
	r := rand.New(rand.NewSource(3))
	long := func(limbs int) api.Nat {
		n := make(api.Nat, limbs)
		for i := range n {
			n[i] = r.Uint32() | 1
		}
		return n
	}
	g := long(50)
	a, b := Mul(long(400), g), Mul(long(395), g)
	want := new(big.Int).GCD(nil, nil, toBig(a), toBig(b))
	expect(t, "gcd", Gcd(a, b), want)
}

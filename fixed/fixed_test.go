package fixed

import (
	"math"
	"math/big"
	"math/rand"
	"slices"
	"testing"

	"relucert/api"
	"relucert/natural"
	"relucert/rational"
	"relucert/testkit"
)

var frac = testkit.Frac

func TestExamples(t *testing.T) {
	for _, c := range []struct {
		x     api.Rat
		shift int
		want  int64
		e     api.Errno
	}{
		{frac(5, 2), 0, 3, api.OK}, {frac(-5, 2), 0, -3, api.OK}, {frac(1, 3), 2, 1, api.OK}, {frac(3, 8), 2, 2, api.OK}, {rational.Of(1), 62, 1 << 62, api.OK}, {rational.Of(-1), 62, -1 << 62, api.OK}, {frac(3, 2), 62, 0, api.ErrRange},
		{rational.Of(1<<62 + 1), 0, 0, api.ErrRange}, {rational.Of(-1 << 63), 0, 0, api.ErrRange}, {rational.Of(1), -1, 0, api.ErrArg}, {rational.Of(1), 63, 0, api.ErrArg}, {api.Rat{Num: api.Nat{0, 0, 0, 1}}, 0, 0, api.ErrRange}, {api.Rat{Num: api.Nat{0, 0, 0, 1}}, 63, 0, api.ErrArg},
	} {
		if n, e := Round(c.x, c.shift); n != c.want || e != c.e {
			t.Error(c, n, e)
		}
	}
	for _, c := range []struct {
		a, mul int64
		shift  int
		want   int64
		e      api.Errno
	}{
		{7, 1, 1, 4, api.OK}, {-7, 3, 3, -3, api.OK}, {7, -3, 0, -21, api.OK}, {math.MinInt64, math.MinInt64, 62, 0, api.ErrRange}, {math.MinInt64, 1 << 61, 62, -1 << 62, api.OK}, {math.MinInt64, 1, 0, 0, api.ErrRange}, {1 << 62, 1, 0, 1 << 62, api.OK}, {1<<62 + 1, 1, 0, 0, api.ErrRange}, {1, 1, 63, 0, api.ErrArg}, {1 << 40, 1 << 40, 0, 0, api.ErrRange}, {1, 1, 1, 1, api.OK}, {-1, 1, 1, -1, api.OK}, {0, -5, 3, 0, api.OK},
	} {
		if n, e := Scale(c.a, c.mul, c.shift); n != c.want || e != c.e {
			t.Error(c, n, e)
		}
	}
	for _, c := range []struct {
		a    int64
		bits int
		want int64
	}{{300, 8, 127}, {-300, 8, -128}, {5, 8, 5}, {5, 1, 0}, {-5, 1, -1}, {math.MaxInt64, 64, math.MaxInt64}, {math.MinInt64, 64, math.MinInt64}, {1 << 40, 32, 1<<31 - 1}, {99, 0, 99}, {99, 65, 99}, {99, -1, 99}, {math.MinInt64, 63, -1 << 62}} {
		if n := Saturate(c.a, c.bits); n != c.want {
			t.Error(c, n)
		}
	}
	if n, e := Dot([]int64{1, 2}, []int64{3, 4}, 5); n != 16 || e != api.OK {
		t.Error(n, e)
	}
	if x, e := Error(1); e != api.OK || rational.Cmp(x, frac(1, 4)) != 0 || !rational.Valid(x) {
		t.Error(x, e)
	}
	if x, e := Rat(math.MinInt64, 62); e != api.OK || rational.Cmp(x, rational.Of(-2)) != 0 || !rational.Valid(x) {
		t.Error(x, e)
	}
	for _, s := range []int{-1, 63} {
		x, e := Rat(1, s)
		y, f := Error(s)
		if e != api.ErrArg || f != api.ErrArg || len(x.Num)+len(y.Num) != 0 {
			t.Error(s, e, f)
		}
	}
}

func TestDot(t *testing.T) {
	least := int64(math.MinInt64)
	for i, c := range []struct {
		a, b  []int64
		start int64
		want  int64
		e     api.Errno
	}{
		{[]int64{1}, nil, 0, 0, api.ErrArg}, {nil, nil, 1 << 62, 1 << 62, api.OK}, {nil, nil, 1<<62 + 1, 0, api.ErrRange}, {nil, nil, least, 0, api.ErrRange}, {[]int64{1}, []int64{-1}, -1 << 62, 0, api.ErrRange}, {[]int64{least, least}, []int64{least, math.MaxInt64}, 0, 0, api.ErrRange},
		{slices.Repeat([]int64{least}, 4), slices.Repeat([]int64{least}, 4), 3, 0, api.ErrRange}, {slices.Repeat([]int64{least}, 4), []int64{least, least, -least, -least}, 3, 0, api.ErrRange}, {[]int64{least, least, 7}, []int64{1 << 62, -1 << 62, -3}, 1, -20, api.OK},
	} {
		if n, e := Dot(c.a, c.b, c.start); n != c.want || e != c.e {
			t.Error(i, n, e)
		}
	}
}

func TestRandom(t *testing.T) {
	r := rand.New(rand.NewSource(1))
	word := func() int64 { return int64(r.Uint64()) >> r.Intn(64) }
	limit := new(big.Int).Lsh(big.NewInt(1), 62)
	for range 5000 {
		var a, b []int64
		start := word()
		sum := big.NewInt(start)
		for range r.Intn(6) {
			x, y := word(), word()
			a, b = append(a, x), append(b, y)
			sum.Add(sum, new(big.Int).Mul(big.NewInt(x), big.NewInt(y)))
		}
		n, e := Dot(a, b, start)
		if inside := sum.CmpAbs(limit) <= 0; inside != (e == api.OK) || inside && sum.Int64() != n {
			t.Fatal("dot", a, b, start, n, e)
		}
		x, mul, s := word(), word(), r.Intn(63)
		p := new(big.Int).Mul(big.NewInt(x), big.NewInt(mul))
		neg := p.Sign() < 0
		p.Abs(p).Lsh(p, 1).Add(p, new(big.Int).Lsh(big.NewInt(1), uint(s))).Rsh(p, uint(s+1))
		if neg {
			p.Neg(p)
		}
		n, e = Scale(x, mul, s)
		if inside := p.CmpAbs(limit) <= 0; inside != (e == api.OK) || inside && p.Int64() != n {
			t.Fatal("scale", x, mul, s, n, e)
		}
		num, den := int(word()>>20), 1+r.Intn(1000)
		q, s := frac(num, den), r.Intn(30)
		n, e = Round(q, s)
		m, _ := Round(rational.Neg(q), s)
		back, _ := Rat(n, s)
		again, _ := Round(back, s)
		d := rational.Sub(back, q)
		d.Neg = false
		if bound, _ := Error(s); e == api.OK && (rational.Cmp(d, bound) > 0 || m != -n || again != n) {
			t.Fatal("round", num, den, s, n)
		}
		next, _ := Round(rational.Add(q, frac(1, 7)), s)
		if e == api.OK && next < n && next != 0 {
			t.Fatal("monotony")
		}
	}
	if natural.Bits(power(62).Num) != 63 {
		t.Error("power")
	}
}

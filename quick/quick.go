// Package quick implements rational numbers for long computations: numbers with small parts are kept in two words, and only others use layer 3.
package quick

import (
	"math/bits"

	"relucert/api"
	"relucert/rational"
)

// Num is a number n/(d+1) without common divisors, or big. The zero value is 0. Numbers are never changed.
type Num struct {
	n, d int64
	big  *api.Rat
}

// One is the number 1.
func One() Num { return Num{n: 1} }

// Of returns a canonical number.
func Of(x api.Rat) Num {
	if len(x.Num) > 2 || len(x.Den) > 2 {
		return Num{big: &x}
	}
	n, d := word(x.Num), word(x.Den)
	if n>>62 != 0 || d>>62 != 0 {
		return Num{big: &x}
	}
	if d == 0 {
		d = 1
	}
	return signed(x.Neg, n, d)
}

func word(n api.Nat) uint64 {
	switch len(n) {
	case 0:
		return 0
	case 1:
		return uint64(n[0])
	}
	return uint64(n[1])<<32 | uint64(n[0])
}

func signed(neg bool, n, d uint64) Num {
	if neg {
		return Num{n: -int64(n), d: int64(d) - 1}
	}
	return Num{n: int64(n), d: int64(d) - 1}
}

func limbs(x uint64) api.Nat {
	switch {
	case x == 0:
		return nil
	case x>>32 == 0:
		return api.Nat{uint32(x)}
	}
	return api.Nat{uint32(x), uint32(x >> 32)}
}

// Rat returns the canonical number.
func (x Num) Rat() api.Rat {
	if x.big != nil {
		return *x.big
	}
	out := api.Rat{Neg: x.n < 0, Num: limbs(size(x.n))}
	if x.d > 0 {
		out.Den = limbs(uint64(x.d) + 1)
	}
	return out
}

func size(n int64) uint64 {
	if n < 0 {
		return uint64(-n)
	}
	return uint64(n)
}

// Sign returns the sign.
func (x Num) Sign() int {
	switch {
	case x.big != nil:
		return rational.Sign(*x.big)
	case x.n < 0:
		return -1
	case x.n > 0:
		return 1
	}
	return 0
}

// IsZero reports whether the number is 0.
func (x Num) IsZero() bool { return x.n == 0 && x.big == nil }

func gcd(x, y uint64) uint64 {
	if x == 0 || y == 0 {
		return x | y
	}
	twos := bits.TrailingZeros64(x | y)
	x >>= bits.TrailingZeros64(x)
	for y != 0 {
		y >>= bits.TrailingZeros64(y)
		if x > y {
			x, y = y, x
		}
		y -= x
	}
	return x << twos
}

// product returns x times y if it is below 2^62.
func product(x, y uint64) (uint64, bool) {
	hi, lo := bits.Mul64(x, y)
	return lo, hi == 0 && lo>>62 == 0
}

// Neg returns the negated number.
func (x Num) Neg() Num {
	if x.big != nil {
		return Of(rational.Neg(*x.big))
	}
	return Num{n: -x.n, d: x.d}
}

// Add returns the sum.
func (x Num) Add(y Num) Num {
	switch {
	case x.IsZero():
		return y
	case y.IsZero():
		return x
	case x.big == nil && y.big == nil:
		if z, ok := addSmall(x, y); ok {
			return z
		}
	}
	return Of(rational.Add(x.Rat(), y.Rat()))
}

func addSmall(x, y Num) (Num, bool) {
	xd, yd := uint64(x.d)+1, uint64(y.d)+1
	if xd == 1 && yd == 1 {
		n := x.n + y.n
		return Num{n: n}, size(n)>>62 == 0
	}
	g := gcd(xd, yd)
	a, okA := product(size(x.n), yd/g)
	b, okB := product(size(y.n), xd/g)
	d, okD := product(xd, yd/g)
	if !okA || !okB || !okD {
		return Num{}, false
	}
	n := int64(a)
	if x.n < 0 {
		n = -n
	}
	if y.n < 0 {
		n -= int64(b)
	} else {
		n += int64(b)
	}
	h := gcd(size(n), d)
	if n == 0 {
		return Num{}, true
	}
	s := size(n) / h
	return signed(n < 0, s, d/h), s>>62 == 0
}

// Sub returns the difference.
func (x Num) Sub(y Num) Num { return x.Add(y.Neg()) }

// Mul returns the product.
func (x Num) Mul(y Num) Num {
	if x.IsZero() || y.IsZero() {
		return Num{}
	}
	if x.big == nil && y.big == nil {
		if z, ok := mulSmall(x, y); ok {
			return z
		}
	}
	return Of(rational.Mul(x.Rat(), y.Rat()))
}

func mulSmall(x, y Num) (Num, bool) {
	a, b, xd, yd := size(x.n), size(y.n), uint64(x.d)+1, uint64(y.d)+1
	if yd > 1 {
		g := gcd(a, yd)
		a, yd = a/g, yd/g
	}
	if xd > 1 {
		g := gcd(b, xd)
		b, xd = b/g, xd/g
	}
	n, okN := product(a, b)
	d, okD := product(xd, yd)
	return signed((x.n < 0) != (y.n < 0), n, d), okN && okD
}

// Inv returns 1 divided by a number that is not 0.
func (x Num) Inv() Num {
	if x.big != nil {
		q, _ := rational.Div(rational.Of(1), *x.big)
		return Of(q)
	}
	return signed(x.n < 0, uint64(x.d)+1, size(x.n))
}

// Cmp compares two numbers.
func (x Num) Cmp(y Num) int {
	if x.big == nil && y.big == nil && x.d == y.d {
		switch {
		case x.n < y.n:
			return -1
		case x.n > y.n:
			return 1
		}
		return 0
	}
	return x.Sub(y).Sign()
}

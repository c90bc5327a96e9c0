// Package quick implements integers for long computations: small ones are kept in a word, and only others use layers 1 and 2.
package quick

import (
	"math/bits"

	"relucert/api"
	"relucert/integer"
	"relucert/natural"
)

// Int is the number n, or big if that is not nil; then its absolute value is at least 2^63. Numbers are never changed.
type Int struct {
	n   int64
	big *api.Int
}

// Small returns a number whose absolute value is less than 2^63.
func Small(n int) Int { return Int{n: int64(n)} }

// Of returns the number with a canonical magnitude.
func Of(neg bool, mag api.Nat) Int {
	if len(mag) <= 2 {
		if w, _ := natural.Uint(mag); w>>63 == 0 {
			return signed(neg, w)
		}
	}
	return Int{big: &api.Int{Neg: neg, Mag: mag}}
}

func signed(neg bool, w uint64) Int {
	if neg {
		return Int{n: -int64(w)}
	}
	return Int{n: int64(w)}
}

func size(n int64) uint64 {
	if n < 0 {
		return uint64(-n)
	}
	return uint64(n)
}

// Value returns the number as a number of layer 2.
func (x Int) Value() api.Int {
	if x.big != nil {
		return *x.big
	}
	return api.Int{Neg: x.n < 0, Mag: natural.Of(size(x.n))}
}

// Sign returns the sign.
func (x Int) Sign() int {
	switch {
	case x.big != nil && x.big.Neg:
		return -1
	case x.big != nil:
		return 1
	case x.n < 0:
		return -1
	case x.n > 0:
		return 1
	}
	return 0
}

// IsZero reports whether the number is 0.
func (x Int) IsZero() bool { return x.n == 0 && x.big == nil }

// IsOne reports whether the number is 1.
func (x Int) IsOne() bool { return x.n == 1 && x.big == nil }

// Neg returns the negated number.
func (x Int) Neg() Int {
	if x.big != nil {
		return Int{big: &api.Int{Neg: !x.big.Neg, Mag: x.big.Mag}}
	}
	return Int{n: -x.n}
}

// Mul returns the product.
func (x Int) Mul(y Int) Int { return Combine(x, y, Int{}, Int{}) }

// Combine returns a times b plus c times d.
func Combine(a, b, c, d Int) Int {
	if a.big != nil || b.big != nil || c.big != nil || d.big != nil {
		return combineBig(a, b, c, d)
	}
	neg, hi, lo := product(a.n, b.n)
	otherNeg, otherHi, otherLo := product(c.n, d.n)
	if hi|otherHi == 0 && lo>>62 == 0 && otherLo>>62 == 0 {
		x, y := int64(lo), int64(otherLo)
		if neg {
			x = -x
		}
		if otherNeg {
			y = -y
		}
		return Int{n: x + y}
	}
	if neg == otherNeg {
		var carry uint64
		lo, carry = bits.Add64(lo, otherLo, 0)
		hi, _ = bits.Add64(hi, otherHi, carry)
		return wide(neg, hi, lo)
	}
	if hi < otherHi || hi == otherHi && lo < otherLo {
		neg, hi, lo, otherHi, otherLo = otherNeg, otherHi, otherLo, hi, lo
	}
	var borrow uint64
	lo, borrow = bits.Sub64(lo, otherLo, 0)
	hi, _ = bits.Sub64(hi, otherHi, borrow)
	return wide(neg, hi, lo)
}

// product returns the sign and the two words of a product.
func product(x, y int64) (neg bool, hi, lo uint64) {
	hi, lo = bits.Mul64(size(x), size(y))
	return (x < 0) != (y < 0), hi, lo
}

// wide returns a number of two words.
func wide(neg bool, hi, lo uint64) Int {
	if hi == 0 && lo>>63 == 0 {
		return signed(neg, lo)
	}
	mag := api.Nat{uint32(lo), uint32(lo >> 32), uint32(hi), uint32(hi >> 32)}
	for mag[len(mag)-1] == 0 {
		mag = mag[:len(mag)-1]
	}
	return Int{big: &api.Int{Neg: neg, Mag: mag}}
}

func combineBig(a, b, c, d Int) Int {
	var sum api.Int
	switch {
	case c.IsZero() || d.IsZero():
		sum = times(a, b)
	case a.IsZero() || b.IsZero():
		sum = times(c, d)
	default:
		sum = integer.Add(times(a, b), times(c, d))
	}
	return Of(sum.Neg, sum.Mag)
}

func times(a, b Int) api.Int {
	switch {
	case a.IsOne():
		return b.Value()
	case b.IsOne():
		return a.Value()
	}
	return integer.Mul(a.Value(), b.Value())
}

// Quo returns the quotient by a positive number that divides x.
func (x Int) Quo(g Int) Int {
	if x.big == nil && g.big == nil {
		return Int{n: x.n / g.n}
	}
	v := x.Value()
	q, _, _ := natural.DivMod(v.Mag, g.Value().Mag)
	return Of(v.Neg, q)
}

// Gcd returns the greatest common divisor.
func Gcd(x, y Int) Int {
	if x.big == nil && y.big == nil {
		return Int{n: int64(natural.GcdWord(size(x.n), size(y.n)))}
	}
	return Of(false, natural.Gcd(x.Value().Mag, y.Value().Mag))
}

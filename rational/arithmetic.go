package rational

import (
	"math/bits"

	"relucert/api"
	"relucert/integer"
	"relucert/natural"
)

// Neg returns the negated number.
func Neg(x api.Rat) api.Rat { return reduce(!x.Neg, x.Num, den(x)) }

// Add returns the sum.
func Add(a, b api.Rat) api.Rat {
	if sum, ok := addWords(a, b); ok {
		return sum
	}
	da, db := den(a), den(b)
	if natural.Cmp(da, db) == 0 {
		sum := integer.Add(api.Int{Neg: a.Neg, Mag: a.Num}, api.Int{Neg: b.Neg, Mag: b.Num})
		return reduce(sum.Neg, sum.Mag, da)
	}
	x := api.Int{Neg: a.Neg, Mag: natural.Mul(a.Num, db)}
	y := api.Int{Neg: b.Neg, Mag: natural.Mul(b.Num, da)}
	sum := integer.Add(x, y)
	return reduce(sum.Neg, sum.Mag, natural.Mul(da, db))
}

// addWords adds numbers whose sum can be computed in words; most numbers of small networks are of this kind.
func addWords(a, b api.Rat) (api.Rat, bool) {
	an, ad, oka := words(a)
	bn, bd, okb := words(b)
	if !oka || !okb {
		return api.Rat{}, false
	}
	x, y := an*bd, bn*ad
	switch {
	case a.Neg == b.Neg:
		sum, carry := bits.Add64(x, y, 0)
		if carry != 0 {
			return api.Rat{}, false
		}
		return reduceWords(a.Neg, sum, ad*bd), true
	case x >= y:
		return reduceWords(a.Neg, x-y, ad*bd), true
	}
	return reduceWords(b.Neg, y-x, ad*bd), true
}

// Sub returns the difference.
func Sub(a, b api.Rat) api.Rat { return Add(a, api.Rat{Neg: !b.Neg, Num: b.Num, Den: b.Den}) }

// Mul returns the product.
func Mul(a, b api.Rat) api.Rat {
	neg := a.Neg != b.Neg
	an, ad, oka := words(a)
	bn, bd, okb := words(b)
	if oka && okb {
		return reduceWords(neg, an*bn, ad*bd)
	}
	return reduce(neg, natural.Mul(a.Num, b.Num), natural.Mul(den(a), den(b)))
}

// Div returns the quotient.
func Div(a, b api.Rat) (api.Rat, api.Errno) {
	if Sign(b) == 0 {
		return api.Rat{}, api.ErrDivide
	}
	return Mul(a, api.Rat{Neg: b.Neg, Num: den(b), Den: b.Num}), api.OK
}

// Floor returns the greatest integer that is not greater than a number.
func Floor(x api.Rat) api.Int {
	q, _, _ := integer.DivMod(api.Int{Neg: x.Neg, Mag: x.Num}, api.Int{Mag: den(x)})
	return q
}

// Simplest returns the simplest number of an interval.
func Simplest(lo, hi api.Rat) (api.Rat, api.Errno) {
	if Cmp(lo, hi) > 0 {
		return api.Rat{}, api.ErrRange
	}
	switch {
	case Sign(lo) > 0:
		return simplest(Canon(lo), Canon(hi)), api.OK
	case Sign(hi) < 0:
		return Neg(simplest(Neg(hi), Neg(lo))), api.OK
	}
	return api.Rat{}, api.OK
}

// simplest descends the Stern-Brocot tree: the tree below an integer is the tree above 1, turned upside down.
func simplest(lo, hi api.Rat) api.Rat {
	floor := Floor(lo)
	whole := api.Rat{Num: floor.Mag}
	if Cmp(whole, lo) == 0 {
		return whole
	}
	next := Add(whole, Of(1))
	if Cmp(next, hi) <= 0 {
		return next
	}
	one := Of(1)
	low, _ := Div(one, Sub(hi, whole))
	high, _ := Div(one, Sub(lo, whole))
	rest, _ := Div(one, simplest(low, high))
	return Add(whole, rest)
}

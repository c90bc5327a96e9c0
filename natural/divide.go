package natural

import (
	"math/bits"
	"slices"

	"relucert/api"
)

// DivMod returns the quotient and the remainder.
func DivMod(a, b api.Nat) (api.Nat, api.Nat, api.Errno) {
	a, b = trim(a), trim(b)
	if len(b) == 0 {
		return nil, nil, api.ErrDivide
	}
	if Cmp(a, b) < 0 {
		return nil, slices.Clone(a), api.OK
	}
	if len(a) <= 2 {
		x, _ := Uint(a)
		y, _ := Uint(b)
		return Of(x / y), Of(x % y), api.OK
	}
	if len(b) == 1 {
		q, r := divLimb(a, b[0])
		return q, Of(uint64(r)), api.OK
	}
	q, r := divLong(a, b)
	return q, r, api.OK
}

func divLimb(a api.Nat, b uint32) (api.Nat, uint32) {
	q := make(api.Nat, len(a))
	var rest uint64
	for i := len(a) - 1; i >= 0; i-- {
		rest = rest<<32 | uint64(a[i])
		q[i] = uint32(rest / uint64(b))
		rest %= uint64(b)
	}
	return trim(q), uint32(rest)
}

// divLong divides a by a shorter or equally long b of at least two limbs. Both are shifted so that the highest bit of b is set: then an estimate from the leading limbs is too great by at most two.
func divLong(a, b api.Nat) (api.Nat, api.Nat) {
	shift := bits.LeadingZeros32(b[len(b)-1])
	d, _ := Shl(b, shift)
	rest := make(api.Nat, len(a)+1)
	shifted, _ := Shl(a, shift)
	copy(rest, shifted)
	n := len(d)
	q := make(api.Nat, len(rest)-n)
	for i := len(q) - 1; i >= 0; i-- {
		q[i] = divStep(rest[i:i+n+1], d)
	}
	r, _ := Shr(rest[:n], shift)
	return trim(q), r
}

// divStep returns one limb of the quotient and subtracts the product from part, which has a limb more than d.
func divStep(part, d api.Nat) uint32 {
	n := len(d)
	top := uint64(part[n])<<32 | uint64(part[n-1])
	lead, next := uint64(d[n-1]), uint64(d[n-2])
	guess, rest := top/lead, top%lead
	for guess>>32 != 0 || guess*next > rest<<32|uint64(part[n-2]) {
		guess--
		rest += lead
		if rest>>32 != 0 {
			break
		}
	}
	if mulSub(part, d, guess) {
		guess--
		addInto(part, d)
	}
	return uint32(guess)
}

// mulSub subtracts guess times d from part and reports whether the result would be negative; then part is it plus a power of two.
func mulSub(part, d api.Nat, guess uint64) bool {
	var carry uint64
	var borrow uint32
	for i, x := range d {
		carry += guess * uint64(x)
		part[i], borrow = bits.Sub32(part[i], uint32(carry), borrow)
		carry >>= 32
	}
	n := len(d)
	part[n], borrow = bits.Sub32(part[n], uint32(carry), borrow)
	return borrow != 0
}

// Gcd returns the greatest common divisor.
func Gcd(a, b api.Nat) api.Nat {
	a, b = trim(a), trim(b)
	if len(a) < len(b) {
		a, b = b, a
	}
	if len(a) <= 2 {
		x, _ := Uint(a)
		y, _ := Uint(b)
		return Of(GcdWord(x, y))
	}
	a, b = slices.Clone(a), slices.Clone(b)
	for len(b) > 0 {
		if len(a) <= 2 {
			x, _ := Uint(a)
			y, _ := Uint(b)
			return Of(GcdWord(x, y))
		}
		a, b = gcdRound(a, b)
	}
	return a
}

// GcdWord returns the greatest common divisor of two words.
func GcdWord(x, y uint64) uint64 {
	if x == 0 || y == 0 {
		return x | y
	}
	twos := bits.TrailingZeros64(x | y)
	x >>= bits.TrailingZeros64(x)
	for y != 0 {
		y >>= bits.TrailingZeros64(y)
		if x > y {
			x, y = y, x
		}
		y -= x
	}
	return x << twos
}

// gcdRound replaces a and b by smaller numbers with the same divisors: by as many steps of Euclid's algorithm as the leading 64 bits determine, or by one division.
func gcdRound(a, b api.Nat) (api.Nat, api.Nat) {
	if Cmp(a, b) < 0 {
		a, b = b, a
	}
	if len(b) == 0 {
		return a, b
	}
	m := leading(a, b)
	if m.v0 == 0 {
		_, r, _ := DivMod(a, b)
		return b, r
	}
	return m.apply(a, b)
}

// matrix describes steps of Euclid's algorithm: a becomes u0 a - v0 b and b becomes v1 b - u1 a after an even number of steps, with opposite signs otherwise.
type matrix struct {
	u0, u1, v0, v1 uint64
	even           bool
}

// leading performs the steps (Lehmer's method) that are certain whatever the lower limbs are; all factors are below 2^32.
func leading(a, b api.Nat) matrix {
	top := 32*len(a) - bits.LeadingZeros32(a[len(a)-1])
	x, y := window(a, top), window(b, top)
	u0, u1, u2 := uint64(0), uint64(1), uint64(0)
	v0, v1, v2 := uint64(0), uint64(0), uint64(1)
	even := false
	for y >= v2 && x-y >= v1+v2 {
		q, r := x/y, x%y
		x, y = y, r
		u0, u1, u2 = u1, u2, u1+q*u2
		v0, v1, v2 = v1, v2, v1+q*v2
		even = !even
	}
	return matrix{u0, u1, v0, v1, even}
}

// window returns the 64 bits of n below bit number top.
func window(n api.Nat, top int) uint64 {
	var w uint64
	low := top - 64
	for i := low / 32; i < low/32+3; i++ {
		if i >= len(n) {
			break
		}
		at := 32*i - low
		if at < 0 {
			w |= uint64(n[i]) >> uint(-at)
		} else {
			w |= uint64(n[i]) << uint(at)
		}
	}
	return w
}

func (m matrix) apply(a, b api.Nat) (api.Nat, api.Nat) {
	if m.even {
		return combine(a, m.u0, b, m.v0), combine(b, m.v1, a, m.u1)
	}
	return combine(b, m.v0, a, m.u0), combine(a, m.u1, b, m.v1)
}

// combine returns x times u minus y times v, which is not negative.
func combine(x api.Nat, u uint64, y api.Nat, v uint64) api.Nat {
	n := max(len(x), len(y))
	out := make(api.Nat, n)
	var plus, minus uint64
	var borrow uint32
	for i := range out {
		if i < len(x) {
			plus += u * uint64(x[i])
		}
		if i < len(y) {
			minus += v * uint64(y[i])
		}
		out[i], borrow = bits.Sub32(uint32(plus), uint32(minus), borrow)
		plus >>= 32
		minus >>= 32
	}
	return trim(out)
}

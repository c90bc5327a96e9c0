// Package natural implements layer 1: natural numbers of any size. See shared/doc/01-natural.md.
package natural

import (
	"math/bits"
	"slices"

	"relucert/api"
)

// Make returns the canonical slice of a number.
func Make(l []uint32) api.Nat { return slices.Clone(api.Nat(trim(l))) }

// Valid reports whether a slice is canonical.
func Valid(n api.Nat) bool { return len(n) == 0 || n[len(n)-1] != 0 }

// Of returns a number.
func Of(x uint64) api.Nat {
	switch {
	case x == 0:
		return nil
	case x>>32 == 0:
		return api.Nat{uint32(x)}
	}
	return api.Nat{uint32(x), uint32(x >> 32)}
}

// Uint returns a number that is less than 2^64.
func Uint(n api.Nat) (uint64, bool) {
	n = trim(n)
	switch len(n) {
	case 0:
		return 0, true
	case 1:
		return uint64(n[0]), true
	case 2:
		return uint64(n[1])<<32 | uint64(n[0]), true
	}
	return 0, false
}

// Cmp compares two numbers.
func Cmp(a, b api.Nat) int {
	a, b = trim(a), trim(b)
	if len(a) != len(b) {
		if len(a) < len(b) {
			return -1
		}
		return 1
	}
	for i := len(a) - 1; i >= 0; i-- {
		if a[i] != b[i] {
			if a[i] < b[i] {
				return -1
			}
			return 1
		}
	}
	return 0
}

// Add returns the sum.
func Add(a, b api.Nat) api.Nat {
	a, b = trim(a), trim(b)
	if len(a) < len(b) {
		a, b = b, a
	}
	sum := make(api.Nat, len(a)+1)
	copy(sum, a)
	addInto(sum, b)
	return trim(sum)
}

// Sub returns the difference.
func Sub(a, b api.Nat) (api.Nat, api.Errno) {
	if Cmp(a, b) < 0 {
		return nil, api.ErrRange
	}
	a, b = trim(a), trim(b)
	d := slices.Clone(a)
	subFrom(d, b)
	return trim(d), api.OK
}

// Mul returns the product.
func Mul(a, b api.Nat) api.Nat {
	a, b = trim(a), trim(b)
	if len(a) == 0 || len(b) == 0 {
		return nil
	}
	if len(a) == 1 && len(b) == 1 {
		return Of(uint64(a[0]) * uint64(b[0]))
	}
	p := make(api.Nat, len(a)+len(b))
	mulInto(p, a, b)
	return trim(p)
}

// Shl returns a number times a power of two.
func Shl(a api.Nat, k int) (api.Nat, api.Errno) {
	if k < 0 || k > api.MaxShift {
		return nil, api.ErrRange
	}
	a = trim(a)
	if len(a) == 0 {
		return nil, api.OK
	}
	limbs, low := k/32, uint(k%32)
	out := make(api.Nat, len(a)+limbs+1)
	for i, x := range a {
		wide := uint64(x) << low
		out[i+limbs] |= uint32(wide)
		out[i+limbs+1] = uint32(wide >> 32)
	}
	return trim(out), api.OK
}

// Shr returns a number divided by a power of two.
func Shr(a api.Nat, k int) (api.Nat, api.Errno) {
	if k < 0 || k > api.MaxShift {
		return nil, api.ErrRange
	}
	a = trim(a)
	limbs, low := k/32, uint(k%32)
	if limbs >= len(a) {
		return nil, api.OK
	}
	out := make(api.Nat, len(a)-limbs)
	for i := range out {
		wide := uint64(a[i+limbs])
		if i+limbs+1 < len(a) {
			wide |= uint64(a[i+limbs+1]) << 32
		}
		out[i] = uint32(wide >> low)
	}
	return trim(out), api.OK
}

// Bits returns the number of bits.
func Bits(n api.Nat) int {
	n = trim(n)
	if len(n) == 0 {
		return 0
	}
	return 32*(len(n)-1) + bits.Len32(n[len(n)-1])
}

// trim cuts the limbs 0 at the end; the result shares the memory of n.
func trim[S ~[]uint32](n S) S {
	for len(n) > 0 && n[len(n)-1] == 0 {
		n = n[:len(n)-1]
	}
	return n
}

// addInto adds b to sum, which has room for the carry.
func addInto(sum, b api.Nat) {
	var carry uint64
	for i, x := range b {
		carry += uint64(sum[i]) + uint64(x)
		sum[i] = uint32(carry)
		carry >>= 32
	}
	for i := len(b); carry != 0 && i < len(sum); i++ {
		carry += uint64(sum[i])
		sum[i] = uint32(carry)
		carry >>= 32
	}
}

// subFrom subtracts b from d, which is not less than b.
func subFrom(d, b api.Nat) {
	var borrow uint32
	for i, x := range b {
		d[i], borrow = bits.Sub32(d[i], x, borrow)
	}
	for i := len(b); borrow != 0 && i < len(d); i++ {
		d[i], borrow = bits.Sub32(d[i], 0, borrow)
	}
}

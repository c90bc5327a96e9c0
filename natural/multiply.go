package natural

import "relucert/api"

// Shorter factors are multiplied limb by limb, because dividing them costs more than it saves.
const splitLimbs = 48

// mulInto writes a times b to p, which has as many limbs as both together, all of them 0.
func mulInto(p, a, b api.Nat) {
	if len(a) < len(b) {
		a, b = b, a
	}
	if len(b) < splitLimbs {
		mulSimple(p, a, b)
		return
	}
	if len(a) > 2*len(b) {
		mulPieces(p, a, b)
		return
	}
	mulSplit(p, a, b)
}

func mulSimple(p, a, b api.Nat) {
	for i, y := range b {
		if y == 0 {
			continue
		}
		var carry uint64
		for k, x := range a {
			carry += uint64(x)*uint64(y) + uint64(p[i+k])
			p[i+k] = uint32(carry)
			carry >>= 32
		}
		p[i+len(a)] = uint32(carry)
	}
}

// mulPieces cuts the longer factor a into pieces as long as b.
func mulPieces(p, a, b api.Nat) {
	for at := 0; at < len(a); at += len(b) {
		piece := a[at:min(at+len(b), len(a))]
		part := make(api.Nat, len(piece)+len(b))
		mulInto(part, piece, b)
		addInto(p[at:], part)
	}
}

// mulSplit is Karatsuba's method: three products of halves instead of four.
func mulSplit(p, a, b api.Nat) {
	half := (len(a) + 1) / 2
	if len(b) <= half {
		mulPieces(p, a, b)
		return
	}
	a0, a1 := a[:half], a[half:]
	b0, b1 := b[:half], b[half:]
	low := make(api.Nat, 2*half)
	mulInto(low, a0, b0)
	high := make(api.Nat, len(a1)+len(b1))
	mulInto(high, a1, b1)
	sa, sb := sumOf(a0, a1), sumOf(b0, b1)
	mid := make(api.Nat, len(sa)+len(sb))
	mulInto(mid, sa, sb)
	subFrom(mid, low)
	subFrom(mid, high)
	addInto(p, low)
	addInto(p[2*half:], high)
	addInto(p[half:], trim(mid))
}

func sumOf(a, b api.Nat) api.Nat {
	sum := make(api.Nat, len(a)+1)
	copy(sum, a)
	addInto(sum, b)
	return sum
}

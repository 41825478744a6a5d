package nat

import (
	"math/bits"
	"slices"
)

// Div is how often b goes into a, and what is left; false: b is 0.
func Div(a, b Nat) (Nat, Nat, bool) {
	switch {
	case len(b.limbs) == 0:
		return Nat{}, Nat{}, false
	case len(a.limbs) <= 2 && len(b.limbs) <= 2:
		return Of(a.Low() / b.Low()), Of(a.Low() % b.Low()), true
	case Cmp(a, b) < 0:
		return Nat{}, clone(a), true
	case len(b.limbs) == 1:
		often := slices.Clone(a.limbs)
		left := divideByLimb(often, b.limbs[0])
		return wrap(often), Of(uint64(left)), true
	}
	often, left := divideLong(a.limbs, b.limbs)
	return wrap(often), wrap(left), true
}

// divideByLimb puts how often d goes into x in x's place, and tells what is left.
func divideByLimb(x []uint32, d uint32) uint32 {
	var left uint64
	for i := len(x) - 1; i >= 0; i-- {
		left = left<<limbBits | uint64(x[i])
		x[i] = uint32(left / uint64(d))
		left %= uint64(d)
	}
	return uint32(left)
}

// divideLong divides limb by limb, as one does on paper; b has two limbs or more, a no fewer than b.
func divideLong(a, b []uint32) ([]uint32, []uint32) {
	n := len(b)
	// With the highest digit of the divisor set, a guess from its two highest limbs is at most one too great.
	s := bits.LeadingZeros32(b[n-1])
	left, by := make([]uint32, len(a)+1), make([]uint32, n+1)
	shiftUp(left, a, s)
	shiftUp(by, b, s)
	by = by[:n]
	often := make([]uint32, len(a)-n+1)
	for i := len(often) - 1; i >= 0; i-- {
		part := left[i : i+n+1]
		q := guessLimb(part, by)
		if takeTimes(part, by, q) {
			q--
			giveBack(part, by)
		}
		often[i] = q
	}
	shiftDown(left, left, s)
	return often, left[:n]
}

// guessLimb tells how often by goes into part, or one more; part has a limb more than by, and is less than by a limb higher.
func guessLimb(part, by []uint32) uint32 {
	n := len(by)
	high, next := uint64(by[n-1]), uint64(by[n-2])
	head := uint64(part[n])<<limbBits | uint64(part[n-1])
	q, left := head/high, head%high
	for q>>limbBits != 0 || q*next > left<<limbBits|uint64(part[n-2]) {
		q--
		left += high
		if left>>limbBits != 0 {
			break
		}
	}
	return uint32(q)
}

// takeTimes takes by, q times, from part; true: that was once too often, and part has wrapped round.
func takeTimes(part, by []uint32, q uint32) bool {
	var owed uint64
	for i, x := range by {
		owed += uint64(q) * uint64(x)
		d := uint64(part[i]) - uint64(uint32(owed))
		part[i] = uint32(d)
		owed = owed>>limbBits + d>>63
	}
	d := uint64(part[len(by)]) - owed
	part[len(by)] = uint32(d)
	return d>>63 != 0
}

// giveBack adds by to a part that has wrapped round, which brings it back.
func giveBack(part, by []uint32) {
	var carry uint64
	for i, x := range by {
		carry += uint64(part[i]) + uint64(x)
		part[i] = uint32(carry)
		carry >>= limbBits
	}
	part[len(by)] += uint32(carry)
}

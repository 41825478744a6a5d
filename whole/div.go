package whole

import (
	"math/bits"

	"cincture/api"
	"cincture/nat"
)

// Div is q and r with a = q times b, and r; r is nearer to 0 than b, and of b's sign or 0. False: b is 0.
func Div(a, b Int) (Int, Int, bool) {
	q, r, ok := nat.Div(a.abs, b.abs)
	if !ok {
		return Int{}, Int{}, false
	}
	unlike := a.below != b.below
	if unlike && !isZero(r) {
		// What is left has a's sign here: one b more brings it to b's.
		q = nat.Add(q, nat.Of(1))
		r, _ = nat.Sub(b.abs, r)
	}
	return signed(unlike, q), signed(b.below, r), true
}

// Pow is a n times by itself, n cut to 0 to MaxExp; of n 0 it is 1.
func Pow(a Int, n int) Int {
	n = min(max(n, 0), api.MaxExp)
	power := nat.Of(1)
	// From n's highest binary digit down: so nothing on the way is greater than the answer.
	for i := bits.Len(uint(n)) - 1; i >= 0; i-- {
		power = nat.Mul(power, power)
		if n>>i&1 == 1 {
			power = nat.Mul(power, a.abs)
		}
	}
	return signed(a.below && n&1 == 1, power)
}

package rat

import "cincture/whole"

// Cmp is -1, 0 or 1: a is less than b, the same, greater.
func Cmp(a, b Rat) int {
	return whole.Cmp(whole.Mul(a.num, b.bottom()), whole.Mul(b.num, a.bottom()))
}

// Neg is a with its sign turned.
func Neg(a Rat) Rat {
	return Rat{whole.Neg(a.num), fresh(a.den)}
}

// Add is a and b together.
func Add(a, b Rat) Rat {
	x, y := a.bottom(), b.bottom()
	g := gcd(x, y)
	rest := part(x, g)
	sum := whole.Add(whole.Mul(a.num, part(y, g)), whole.Mul(b.num, rest))
	// Only what both denominators have can go into the sum as well: no need to divide by anything greater.
	h := gcd(sum, g)
	return lowest(part(sum, h), whole.Mul(rest, part(y, h)))
}

// Sub is a less b.
func Sub(a, b Rat) Rat {
	return Add(a, Rat{whole.Neg(b.num), b.den})
}

// Mul is a times b.
func Mul(a, b Rat) Rat {
	x, y := a.bottom(), b.bottom()
	// Cut crosswise ahead of the product: each is in lowest terms, so nothing is left to cut behind it.
	g, h := gcd(a.num, y), gcd(b.num, x)
	return lowest(whole.Mul(part(a.num, g), part(b.num, h)), whole.Mul(part(x, h), part(y, g)))
}

// Div is a by b; false: b is 0.
func Div(a, b Rat) (Rat, bool) {
	if b.Sign() == 0 {
		return Rat{}, false
	}
	return Mul(a, inverse(b)), true
}

// inverse is 1 by a, which is not 0; it may have a's own memory.
func inverse(a Rat) Rat {
	if a.Sign() < 0 {
		return lowest(whole.Neg(a.bottom()), whole.Neg(a.num))
	}
	return lowest(a.bottom(), a.num)
}

// Pow is a n times by itself, n cut as whole.Pow cuts it; of n 0 it is 1.
func Pow(a Rat, n int) Rat {
	return lowest(whole.Pow(a.num, n), whole.Pow(a.bottom(), n))
}

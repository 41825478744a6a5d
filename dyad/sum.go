package dyad

import (
	"cmp"

	"cincture/whole"
)

// Cmp is -1, 0 or 1: a is less than b, the same, greater.
func Cmp(a, b Dyad) int {
	sign := a.odd.Sign()
	if sign != b.odd.Sign() {
		return cmp.Compare(sign, b.odd.Sign())
	}
	// Unlike places of the highest digit settle it, whatever the exponents: no need to write either number out.
	if order := cmp.Compare(a.top(), b.top()); order != 0 {
		return order * sign
	}
	e := min(a.exp, b.exp)
	return whole.Cmp(a.at(e), b.at(e))
}

// Add is a and b together.
func Add(a, b Dyad) Dyad {
	e := min(a.exp, b.exp)
	return strip(whole.Add(a.at(e), b.at(e)), e)
}

// Sub is a less b.
func Sub(a, b Dyad) Dyad {
	return Add(a, Dyad{whole.Neg(b.odd), b.exp})
}

// Mul is a times b.
func Mul(a, b Dyad) Dyad {
	return strip(whole.Mul(a.odd, b.odd), a.exp+b.exp)
}

// Mid is half of a and b together.
func Mid(a, b Dyad) Dyad {
	sum := Add(a, b)
	return strip(sum.odd, sum.exp-1)
}

// top is the place above a's highest binary digit.
func (a Dyad) top() int {
	return a.odd.Abs().Bits() + a.exp
}

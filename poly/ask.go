package poly

import (
	"cincture/api"
	"cincture/mono"
)

// Degree is the greatest Degree of p's monomials; of 0 it is -1.
func Degree(p Poly) int {
	return most(p, -1, mono.Degree)
}

// Top is the greatest exponent of variable i, counted from 0; 0, if there is none.
func Top(p Poly, i int) int {
	if i < 0 || i >= api.MaxVars {
		return 0
	}
	return most(p, 0, func(m api.Mono) int { return int(m[i]) })
}

// Vars is the greatest Vars of p's monomials; of 0 it is 0.
func Vars(p Poly) int {
	return most(p, 0, mono.Vars)
}

// most is the greatest that of tells of p's monomials, and least if there are none.
func most(p Poly, least int, of func(api.Mono) int) int {
	for m := range p.coefs {
		least = max(least, of(m))
	}
	return least
}

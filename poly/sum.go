package poly

import (
	"cincture/api"
	"cincture/mono"
	"cincture/rat"
)

// Add is p and q together.
func Add(p, q Poly) Poly {
	return join(p, q, fresh)
}

// Sub is p less q.
func Sub(p, q Poly) Poly {
	return join(p, q, rat.Neg)
}

// join is p, and q with what turn makes of each coefficient, which is to be new.
func join(p, q Poly, turn func(rat.Rat) rat.Rat) Poly {
	sum := make(coefs, len(p.coefs)+len(q.coefs))
	for m, c := range p.coefs {
		sum[m] = fresh(c)
	}
	for m, c := range q.coefs {
		sum.add(m, turn(c))
	}
	return sum.poly()
}

// Scale is p times r.
func Scale(p Poly, r rat.Rat) Poly {
	sum := coefs{}
	sum.addTimes(p, r)
	return sum.poly()
}

// addTimes adds p times r to s.
func (s coefs) addTimes(p Poly, r rat.Rat) {
	for m, c := range p.coefs {
		s.add(m, rat.Mul(c, r))
	}
}

// Mul is p times q; false: an exponent of a product of two terms would be above MaxExp.
func Mul(p, q Poly) (Poly, bool) {
	if !fits(tops(p), tops(q)) {
		return Poly{}, false
	}
	sum := coefs{}
	for a, c := range p.coefs {
		for b, d := range q.coefs {
			m, _ := mono.Mul(a, b)
			sum.add(m, rat.Mul(c, d))
		}
	}
	return sum.poly(), true
}

// tops is the Top of each variable.
func tops(p Poly) [api.MaxVars]int {
	var out [api.MaxVars]int
	for i := range out {
		out[i] = Top(p, i)
	}
	return out
}

// fits tells whether a product has no exponent above MaxExp, by the Tops of both factors: then no product of two of their terms has one.
func fits(a, b [api.MaxVars]int) bool {
	for i := range a {
		if a[i]+b[i] > api.MaxExp {
			return false
		}
	}
	return true
}

// Diff is the derivative of p by variable i, counted from 0; 0, if there is none.
func Diff(p Poly, i int) Poly {
	if i < 0 || i >= api.MaxVars {
		return Poly{}
	}
	out := coefs{}
	for m, c := range p.coefs {
		if e := m[i]; e > 0 {
			m[i]--
			out[m] = rat.Mul(c, rat.Of(int64(e)))
		}
	}
	return out.poly()
}

// At is what p comes to at x.
func At(p Poly, x [3]rat.Rat) rat.Rat {
	var sum rat.Rat
	for m, c := range p.coefs {
		for i, e := range m {
			if e > 0 {
				c = rat.Mul(c, rat.Pow(x[i], int(e)))
			}
		}
		sum = rat.Add(sum, c)
	}
	return sum
}

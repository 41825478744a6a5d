package poly

import (
	"slices"

	"cincture/api"
	"cincture/rat"
)

// Compose is p with l's polynomials in the variables' places; false: a Mul on the way is,
// which is, of each term, its coefficient times l[0], as often as its exponent says, then l[1], then l[2].
func Compose(p Poly, l [3]Poly) (Poly, bool) {
	c := composer{l: l, sum: coefs{}}
	for i := range l {
		c.tops[i] = tops(l[i])
	}
	var left []Term
	for _, t := range p.Terms() {
		if !c.goes(t.M) {
			return Poly{}, false
		}
		if !c.vanishes(t.M) {
			left = append(left, t)
		}
	}
	// By the exponents from the first variable on: terms that have the beginning of their ways in common stand together.
	slices.SortFunc(left, func(a, b Term) int { return slices.Compare(a.M[:], b.M[:]) })
	c.add(Const(rat.Of(1)), 0, left)
	return c.sum.poly(), true
}

// composer puts polynomials in the variables' places.
type composer struct {
	l    [api.MaxVars]Poly
	tops [api.MaxVars][api.MaxVars]int // of each of l
	sum  coefs
}

// goes tells whether no Mul on the way of m is false.
//
// Of two factors that are not 0 each Top of the product is the sum of theirs, so there is no need to multiply:
// what would be false is told ahead of all work, and what is 0 by then is never false again.
func (c *composer) goes(m api.Mono) bool {
	var all [api.MaxVars]int
	for i, e := range m {
		if e > 0 && isZero(c.l[i]) {
			return true
		}
		for k, top := range c.tops[i] {
			all[k] += int(e) * top
			if all[k] > api.MaxExp {
				return false
			}
		}
	}
	return true
}

// vanishes tells whether m becomes 0.
func (c *composer) vanishes(m api.Mono) bool {
	for i, e := range m {
		if e > 0 && isZero(c.l[i]) {
			return true
		}
	}
	return false
}

// add adds what terms become to the sum. They have the exponents of the variables ahead of i in common, of which so is the product,
// and stand in order of the others.
func (c *composer) add(so Poly, i int, terms []Term) {
	if i == len(c.l) {
		for _, t := range terms {
			c.sum.addTimes(so, t.C)
		}
		return
	}
	times := 0
	for len(terms) > 0 {
		e := terms[0].M[i]
		for ; times < int(e); times++ {
			so, _ = Mul(so, c.l[i])
		}
		n := alike(terms, i)
		c.add(so, i+1, terms[:n])
		terms = terms[n:]
	}
}

// alike is how many of terms, from the first one on, have its exponent of variable i.
func alike(terms []Term, i int) int {
	n := 0
	for n < len(terms) && terms[n].M[i] == terms[0].M[i] {
		n++
	}
	return n
}

func isZero(p Poly) bool {
	return len(p.coefs) == 0
}

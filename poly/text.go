package poly

import (
	"cincture/api"
	"cincture/mono"
	"cincture/rat"
)

// Parse is the Poly whose Plain l is; ErrForm, if there is none.
func Parse(l []api.Term) (Poly, api.Code) {
	sum := coefs{}
	for i, t := range l {
		c, code := rat.Parse(t.C)
		if code != api.OK || c.Sign() == 0 || i > 0 && mono.Cmp(l[i-1].M, t.M) >= 0 {
			return Poly{}, api.ErrForm
		}
		sum[t.M] = c
	}
	return sum.poly(), api.OK
}

// Plain is p's Terms, with texts as coefficients.
func Plain(p Poly) []api.Term {
	var l []api.Term
	for _, t := range p.Terms() {
		l = append(l, api.Term{M: t.M, C: t.C.Text()})
	}
	return l
}

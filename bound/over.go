package bound

import (
	"cincture/api"
	"cincture/poly"
	"cincture/span"
)

// Over is of each term of p its coefficient times the powers of l, all added; of 0 it is 0 alone.
func Over(p poly.Poly, l [3]span.Span) span.Span {
	var known [api.MaxVars]powers
	for i, side := range l {
		known[i] = powers{side, map[uint8]span.Span{}}
	}
	var sum span.Span
	for _, t := range p.Terms() {
		sum = span.Add(sum, span.Scale(product(known, t.M), t.C))
	}
	return sum
}

// product is the powers that m has of each, times one another.
func product(of [api.MaxVars]powers, m api.Mono) span.Span {
	out := span.Pow(span.Span{}, 0)
	for i, e := range m {
		if e > 0 {
			out = span.Mul(out, of[i].to(e))
		}
	}
	return out
}

// powers is a Span and those of its powers that have been asked for: terms ask for the same ones over and over.
type powers struct {
	base  span.Span
	known map[uint8]span.Span
}

// to is the Span to the e.
func (p powers) to(e uint8) span.Span {
	a, ok := p.known[e]
	if !ok {
		a = span.Pow(p.base, int(e))
		p.known[e] = a
	}
	return a
}

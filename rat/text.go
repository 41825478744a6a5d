package rat

import (
	"strings"

	"cincture/api"
	"cincture/whole"
)

// Parse is the number whose Text s is, numerator and denominator of at most MaxDigits digits each; ErrForm of any other text.
func Parse(s string) (Rat, api.Code) {
	over, under, quotient := strings.Cut(s, "/")
	n, code := whole.Parse(over)
	if code != api.OK {
		return Rat{}, api.ErrForm
	}
	if !quotient {
		return Rat{num: n}, api.OK
	}
	d, code := whole.Parse(under)
	if code != api.OK || whole.Cmp(d, whole.Of(1)) <= 0 || !isOne(gcd(n, d)) {
		return Rat{}, api.ErrForm
	}
	return Rat{n, d}, api.OK
}

// Text is the numerator's text and, if the denominator is not 1, `/` and the denominator's.
func (a Rat) Text() string {
	if a.den.Sign() == 0 {
		return a.num.Text()
	}
	return a.num.Text() + "/" + a.den.Text()
}

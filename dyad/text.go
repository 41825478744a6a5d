package dyad

import (
	"cincture/api"
	"cincture/rat"
)

// Parse is the number whose text s is; ErrForm, unless rat.Parse takes s, and its denominator is a power of two.
func Parse(s string) (Dyad, api.Code) {
	r, code := rat.Parse(s)
	if code != api.OK {
		return Dyad{}, api.ErrForm
	}
	a, ok := Of(r)
	if !ok {
		return Dyad{}, api.ErrForm
	}
	return a, api.OK
}

// Text is the text of a as a quotient.
func (a Dyad) Text() string {
	return a.Rat().Text()
}

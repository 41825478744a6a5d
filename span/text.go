package span

import (
	"cincture/api"
	"cincture/rat"
)

// Parse is the Span whose Plain p is; ErrForm: rat.Parse does not take both; ErrArg: Lo is above Hi.
func Parse(p api.Pair) (Span, api.Code) {
	lo, code := rat.Parse(p.Lo)
	if code != api.OK {
		return Span{}, code
	}
	hi, code := rat.Parse(p.Hi)
	if code != api.OK {
		return Span{}, code
	}
	if rat.Cmp(lo, hi) > 0 {
		return Span{}, api.ErrArg
	}
	return Span{lo, hi}, api.OK
}

// Plain is the texts of both ends.
func Plain(a Span) api.Pair {
	return api.Pair{Lo: a.Lo.Text(), Hi: a.Hi.Text()}
}

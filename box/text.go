package box

import (
	"cincture/api"
	"cincture/dyad"
	"cincture/rat"
	"cincture/span"
)

// Parse is the Box whose Plain l is, if it is Right and all its ends are dyadic.
// ErrArg: there are not 1 to MaxVars sides; then side by side what is wrong with the first that is.
func Parse(l []api.Pair) (Box, api.Code) {
	if len(l) < 1 || len(l) > api.MaxVars {
		return nil, api.ErrArg
	}
	b := make(Box, len(l))
	for i, p := range l {
		side, code := parseSide(p)
		if code != api.OK {
			return nil, code
		}
		b[i] = side
	}
	return b, api.OK
}

// parseSide is one side: span.Parse's error; ErrArg: Lo is not below Hi; ErrForm: an end is not dyadic.
func parseSide(p api.Pair) (span.Span, api.Code) {
	side, code := span.Parse(p)
	switch {
	case code != api.OK:
		return span.Span{}, code
	case rat.Cmp(side.Lo, side.Hi) >= 0:
		return span.Span{}, api.ErrArg
	case !isDyadic(side.Lo) || !isDyadic(side.Hi):
		return span.Span{}, api.ErrForm
	}
	return side, api.OK
}

func isDyadic(a rat.Rat) bool {
	_, ok := dyad.Of(a)
	return ok
}

// Plain is the texts of each side's ends, whether b is Right or not.
func Plain(b Box) []api.Pair {
	l := make([]api.Pair, len(b))
	for i, side := range b {
		l[i] = span.Plain(side)
	}
	return l
}

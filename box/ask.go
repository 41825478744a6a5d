package box

import (
	"cincture/rat"
	"cincture/span"
)

// Within tells whether b has all of a.
func Within(a, b Box) bool {
	return alike(a, b) && bySides(a, b, span.Within)
}

// Meets tells whether a and b have a point in common that is on no edge of either.
func Meets(a, b Box) bool {
	return alike(a, b) && bySides(a, b, overlap)
}

// Hull is the least Box that has both a and b; false: one of them is not Right, or they have unlike numbers of sides.
func Hull(a, b Box) (Box, bool) {
	if !alike(a, b) {
		return nil, false
	}
	out := make(Box, len(a))
	for i := range a {
		out[i] = span.Hull(a[i], b[i])
	}
	return out, true
}

// Has tells whether x is a point of b: as many numbers as b has sides, each in its side.
func Has(b Box, x []rat.Rat) bool {
	if !Right(b) || len(b) != len(x) {
		return false
	}
	for i, side := range b {
		if !span.Has(side, x[i]) {
			return false
		}
	}
	return true
}

// alike tells whether a and b can be held against one another: both are Right, with as many sides.
func alike(a, b Box) bool {
	return len(a) == len(b) && Right(a) && Right(b)
}

// bySides tells whether is holds of each side of a with that of b, which has as many.
func bySides(a, b Box, is func(a, b span.Span) bool) bool {
	for i := range a {
		if !is(a[i], b[i]) {
			return false
		}
	}
	return true
}

// overlap tells whether a and b, which have some width, have a number in common that is no end of either.
func overlap(a, b span.Span) bool {
	return rat.Cmp(a.Lo, b.Hi) < 0 && rat.Cmp(b.Lo, a.Hi) < 0
}

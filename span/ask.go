package span

import (
	"cincture/dyad"
	"cincture/rat"
)

// Has tells whether r is in a.
func Has(a Span, r rat.Rat) bool {
	return rat.Cmp(a.Lo, r) <= 0 && rat.Cmp(r, a.Hi) <= 0
}

// Within tells whether b has all of a.
func Within(a, b Span) bool {
	return rat.Cmp(b.Lo, a.Lo) <= 0 && rat.Cmp(a.Hi, b.Hi) <= 0
}

// Inside tells whether b has all of a, and neither end of b is in a.
func Inside(a, b Span) bool {
	return rat.Cmp(b.Lo, a.Lo) < 0 && rat.Cmp(a.Hi, b.Hi) < 0
}

// Hull is the least Span that has both a and b.
func Hull(a, b Span) Span {
	return Span{fresh(lesser(a.Lo, b.Lo)), fresh(greater(a.Hi, b.Hi))}
}

// Meet is what both a and b have; false: nothing.
func Meet(a, b Span) (Span, bool) {
	return New(greater(a.Lo, b.Lo), lesser(a.Hi, b.Hi))
}

// Mid is the number in the middle of a.
func Mid(a Span) rat.Rat {
	half, _ := rat.Div(rat.Add(a.Lo, a.Hi), rat.Of(2))
	return half
}

// Width is how far Hi is from Lo.
func Width(a Span) rat.Rat {
	return rat.Sub(a.Hi, a.Lo)
}

// Sign is 1: all of a is above 0; -1: all of it is below 0; else 0.
func Sign(a Span) int {
	switch {
	case a.Lo.Sign() > 0:
		return 1
	case a.Hi.Sign() < 0:
		return -1
	}
	return 0
}

// Round is from dyad.Down of Lo to dyad.Up of Hi.
func Round(a Span, bits int) Span {
	return Span{dyad.Down(a.Lo, bits).Rat(), dyad.Up(a.Hi, bits).Rat()}
}

// Same tells whether a and b have the same ends.
func Same(a, b Span) bool {
	return rat.Cmp(a.Lo, b.Lo) == 0 && rat.Cmp(a.Hi, b.Hi) == 0
}

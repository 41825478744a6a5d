package dyad

import (
	"cincture/nat"
	"cincture/rat"
	"cincture/whole"
)

// maxDigits is the most binary digits that Down and Up keep.
const maxDigits = 4096

// Down is the greatest m times 2 to the e that is not above a, m of at most so many binary digits; bits is cut to 1 to 4096.
func Down(a rat.Rat, bits int) Dyad {
	return round(a, bits, a.Sign() < 0)
}

// Up is the least m times 2 to the e that is not below a, m of at most so many binary digits; bits is cut to 1 to 4096.
func Up(a rat.Rat, bits int) Dyad {
	return round(a, bits, a.Sign() > 0)
}

// round is a cut to its highest binary digits; away: one more in the last place of them, if something was cut off.
func round(a rat.Rat, bits int, away bool) Dyad {
	if a.Sign() == 0 {
		return Dyad{}
	}
	bits = min(max(bits, 1), maxDigits)
	over, under := a.Num().Abs(), a.Den().Abs()
	// So many places up, the quotient has as many digits before its point as are asked for, or one more.
	places := bits + under.Bits() - over.Bits()
	m, left, _ := nat.Div(shiftUp(over, places), shiftUp(under, -places))
	exact := left.Bits() == 0
	if m.Bits() > bits {
		exact = exact && m.Zeros() > 0
		m = nat.Shr(m, 1)
		places--
	}
	if away && !exact {
		// If all digits were ones, this is a power of two: a number of one digit.
		m = nat.Add(m, nat.Of(1))
	}
	return strip(whole.From(a.Sign() < 0, m), -places)
}

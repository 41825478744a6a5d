package dyad

import (
	"cincture/nat"
	"cincture/whole"
)

// stepBits is how far one of nat's shifts goes; farther ones take several.
const stepBits = 1 << 20

// farthest is how far an exponent is carried out as binary digits: well beyond what the promises speak of,
// but not so far that the exponent of a long chain of products asks for more memory than there is.
const farthest = 1 << 26

// at is a by 2 to the e, which is not above a's exponent.
func (a Dyad) at(e int) whole.Int {
	return whole.From(a.odd.Sign() < 0, shiftUp(a.odd.Abs(), min(a.exp-e, farthest)))
}

// shiftUp is a times 2 to the n, however far; a itself if n is not above 0.
func shiftUp(a nat.Nat, n int) nat.Nat {
	for ; n > 0; n -= stepBits {
		a = nat.Shl(a, min(n, stepBits))
	}
	return a
}

// shiftDown is a by 2 to the n, however far, what is left goes; a itself if n is not above 0.
func shiftDown(a nat.Nat, n int) nat.Nat {
	for ; n > 0; n -= stepBits {
		a = nat.Shr(a, min(n, stepBits))
	}
	return a
}

package span

import (
	"cincture/api"
	"cincture/rat"
)

// Add is what each number of a and each of b come to together.
func Add(a, b Span) Span {
	return Span{rat.Add(a.Lo, b.Lo), rat.Add(a.Hi, b.Hi)}
}

// Sub is what each number of a less each of b comes to.
func Sub(a, b Span) Span {
	return Span{rat.Sub(a.Lo, b.Hi), rat.Sub(a.Hi, b.Lo)}
}

// Mul is what each number of a times each of b comes to.
func Mul(a, b Span) Span {
	// Where one has 0 at most at an end, signs tell which ends count: no need to work all four products out.
	switch {
	case a.Lo.Sign() >= 0:
		return mulFromZero(a, b)
	case b.Lo.Sign() >= 0:
		return mulFromZero(b, a)
	case a.Hi.Sign() <= 0:
		return turn(mulFromZero(turn(a), b))
	case b.Hi.Sign() <= 0:
		return turn(mulFromZero(turn(b), a))
	}
	return Span{
		lesser(rat.Mul(a.Lo, b.Hi), rat.Mul(a.Hi, b.Lo)),
		greater(rat.Mul(a.Lo, b.Lo), rat.Mul(a.Hi, b.Hi)),
	}
}

// mulFromZero is Mul of an a that has nothing below 0.
func mulFromZero(a, b Span) Span {
	low, high := a.Lo, a.Hi
	if b.Lo.Sign() < 0 {
		low = a.Hi
	}
	if b.Hi.Sign() < 0 {
		high = a.Lo
	}
	return Span{rat.Mul(low, b.Lo), rat.Mul(high, b.Hi)}
}

// turn is each number of a with its sign turned.
func turn(a Span) Span {
	return Span{rat.Neg(a.Hi), rat.Neg(a.Lo)}
}

// Scale is each number of a times r.
func Scale(a Span, r rat.Rat) Span {
	low, high := rat.Mul(a.Lo, r), rat.Mul(a.Hi, r)
	if r.Sign() < 0 {
		return Span{high, low}
	}
	return Span{low, high}
}

// Pow is each number of a to the n, n cut to 0 to MaxExp; of n 0 it is 1 alone.
func Pow(a Span, n int) Span {
	// Cut here and not in rat.Pow alone: what counts below is whether the cut one is even.
	n = min(max(n, 0), api.MaxExp)
	switch {
	case n%2 == 1 || a.Lo.Sign() >= 0:
		return Span{rat.Pow(a.Lo, n), rat.Pow(a.Hi, n)}
	case n == 0 || a.Hi.Sign() <= 0:
		return Span{rat.Pow(a.Hi, n), rat.Pow(a.Lo, n)}
	}
	return Span{Hi: rat.Pow(greater(rat.Neg(a.Lo), a.Hi), n)}
}

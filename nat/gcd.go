package nat

import "slices"

// headBits is how many of the highest binary digits of two numbers steps are tried on: factors then stay below 2 to the 31st.
const headBits = 62

// Gcd is the greatest number that goes into both a and b; of 0 and a it is a.
func Gcd(a, b Nat) Nat {
	if Cmp(a, b) < 0 {
		a, b = b, a
	}
	if len(a.limbs) <= 2 {
		return Of(gcdOfWords(a.Low(), b.Low()))
	}
	x, y := slices.Clone(a.limbs), slices.Clone(b.limbs)
	for len(y) > 2 {
		if f := sureSteps(x, y); f.moves() {
			x, y = f.apply(x, y)
		} else {
			_, left := divideLong(x, y)
			x, y = y, trim(left)
		}
	}
	if len(y) == 0 {
		return wrap(x)
	}
	_, left, _ := Div(wrap(x), wrap(y))
	return Of(gcdOfWords(window(y, 0), left.Low()))
}

// gcdOfWords is Gcd of two words.
func gcdOfWords(a, b uint64) uint64 {
	for b != 0 {
		a, b = b, a%b
	}
	return a
}

// factors tell what some steps of Euclid make of x and y: one times x and one times y, twice.
// The two of a row are of unlike signs, or one is 0.
type factors struct {
	xx, xy int64
	yx, yy int64
}

// moves tells whether there is a step at all.
func (f factors) moves() bool {
	return f.xy != 0
}

// sureSteps goes as many steps of Euclid as the heads of x and y tell for sure; x is not less than y, y has more than 64 binary digits.
//
// What is cut off from x and y is less than 1 of the heads' last place, so a remainder u of the heads,
// its factor of y being g (which is no less than that of x), is less than g off the true one.
// A quotient is therefore the true one if the remainder behind it, within that, is neither below 0 nor as great as the one ahead of it.
func sureSteps(x, y []uint32) factors {
	cut := Nat{x}.Bits() - headBits
	u, v := int64(window(x, cut)), int64(window(y, cut))
	f := factors{xx: 1, yy: 1}
	for v != 0 {
		q := u / v
		w := u - q*v
		wx, wy := f.xx-q*f.yx, f.xy-q*f.yy
		if w < abs(wy) || v-w < abs(wy)+abs(f.yy) {
			break
		}
		u, v = v, w
		f = factors{f.yx, f.yy, wx, wy}
	}
	return f
}

// abs is a without its sign.
func abs(a int64) int64 {
	if a < 0 {
		return -a
	}
	return a
}

// apply goes the steps with x and y themselves, in their place. What comes out is no greater than y was: no limb above y's counts.
func (f factors) apply(x, y []uint32) ([]uint32, []uint32) {
	x = x[:len(y)]
	var s, t int64
	for i := range y {
		a, b := int64(x[i]), int64(y[i])
		s += f.xx*a + f.xy*b
		t += f.yx*a + f.yy*b
		x[i], y[i] = uint32(s), uint32(t)
		s >>= limbBits
		t >>= limbBits
	}
	return trim(x), trim(y)
}

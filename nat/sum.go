package nat

// Add is a and b together.
func Add(a, b Nat) Nat {
	long, short := a.limbs, b.limbs
	if len(long) < len(short) {
		long, short = short, long
	}
	sum := make([]uint32, len(long)+1)
	var carry uint64
	for i, x := range long {
		carry += uint64(x) + uint64(limbAt(short, i))
		sum[i] = uint32(carry)
		carry >>= limbBits
	}
	sum[len(long)] = uint32(carry)
	return wrap(sum)
}

// Sub is a less b; false: b is greater.
func Sub(a, b Nat) (Nat, bool) {
	if Cmp(a, b) < 0 {
		return Nat{}, false
	}
	left := make([]uint32, len(a.limbs))
	var carry int64
	for i, x := range a.limbs {
		carry += int64(x) - int64(limbAt(b.limbs, i))
		left[i] = uint32(carry)
		carry >>= limbBits // keeps its sign: -1 while something is owed
	}
	return wrap(left), true
}

// Mul is a times b.
func Mul(a, b Nat) Nat {
	product := make([]uint32, len(a.limbs)+len(b.limbs))
	for i, x := range a.limbs {
		row := product[i:]
		var carry uint64
		for k, y := range b.limbs {
			carry += uint64(x)*uint64(y) + uint64(row[k])
			row[k] = uint32(carry)
			carry >>= limbBits
		}
		row[len(b.limbs)] = uint32(carry)
	}
	return wrap(product)
}

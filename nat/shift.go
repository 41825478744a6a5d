package nat

// maxShift is the farthest that Shl and Shr go.
const maxShift = 1 << 20

// Shl is a times 2 to the n, n cut to 0 to 2 to the 20th.
func Shl(a Nat, n int) Nat {
	n = cutShift(n)
	i, s := n/limbBits, n%limbBits
	out := make([]uint32, len(a.limbs)+i+1)
	shiftUp(out[i:], a.limbs, s)
	return wrap(out)
}

// Shr is a by 2 to the n, n cut to 0 to 2 to the 20th; what is left goes.
func Shr(a Nat, n int) Nat {
	n = cutShift(n)
	i, s := n/limbBits, n%limbBits
	if i >= len(a.limbs) {
		return Nat{}
	}
	out := make([]uint32, len(a.limbs)-i)
	shiftDown(out, a.limbs[i:], s)
	return wrap(out)
}

// cutShift cuts n to 0 to maxShift.
func cutShift(n int) int {
	return min(max(n, 0), maxShift)
}

// shiftUp writes x, s places up, into out, which has a limb more; s is below limbBits.
func shiftUp(out, x []uint32, s int) {
	var carry uint64
	for i, v := range x {
		carry |= uint64(v) << s
		out[i] = uint32(carry)
		carry >>= limbBits
	}
	out[len(x)] = uint32(carry)
}

// shiftDown writes x, s places down, into out, which has as many limbs; s is below limbBits.
func shiftDown(out, x []uint32, s int) {
	for i := range x {
		pair := uint64(x[i]) | uint64(limbAt(x, i+1))<<limbBits
		out[i] = uint32(pair >> s)
	}
}

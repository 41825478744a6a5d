// Package nat has whole numbers from 0 on, as great as they come.
package nat

import (
	"math/bits"
	"slices"
)

// limbBits is how many binary digits a limb has: the product of two limbs, and two limbs more, fit a word of 64.
const limbBits = 32

// Nat is a whole number from 0 on; the zero Nat is 0.
type Nat struct {
	limbs []uint32 // the lowest first; the last one is not 0, so each number has one form
}

// Of is v.
func Of(v uint64) Nat {
	return wrap([]uint32{uint32(v), uint32(v >> limbBits)})
}

// Bits tells how many binary digits a has; 0 has none.
func (a Nat) Bits() int {
	n := len(a.limbs)
	if n == 0 {
		return 0
	}
	return limbBits*(n-1) + bits.Len32(a.limbs[n-1])
}

// Zeros tells how often 2 goes into a, and 0 of 0.
func (a Nat) Zeros() int {
	for i, x := range a.limbs {
		if x != 0 {
			return limbBits*i + bits.TrailingZeros32(x)
		}
	}
	return 0
}

// Low tells the lowest 64 of a's binary digits.
func (a Nat) Low() uint64 {
	return window(a.limbs, 0)
}

// Cmp is -1, 0 or 1: a is less than b, the same, greater.
func Cmp(a, b Nat) int {
	if len(a.limbs) != len(b.limbs) {
		return order(len(a.limbs) < len(b.limbs))
	}
	for i := len(a.limbs) - 1; i >= 0; i-- {
		if a.limbs[i] != b.limbs[i] {
			return order(a.limbs[i] < b.limbs[i])
		}
	}
	return 0
}

// order is what Cmp tells of two numbers that are unlike.
func order(less bool) int {
	if less {
		return -1
	}
	return 1
}

// wrap takes limbs over: nobody else may keep them.
func wrap(limbs []uint32) Nat {
	limbs = trim(limbs)
	if len(limbs) == 0 {
		return Nat{}
	}
	return Nat{limbs}
}

// clone is a in memory of its own, so that no answer shares any with what was handed in.
func clone(a Nat) Nat {
	return Nat{slices.Clone(a.limbs)}
}

// trim cuts the noughts at the high end off.
func trim(limbs []uint32) []uint32 {
	n := len(limbs)
	for n > 0 && limbs[n-1] == 0 {
		n--
	}
	return limbs[:n]
}

// window is the 64 binary digits from place at on.
func window(limbs []uint32, at int) uint64 {
	i, s := at/limbBits, at%limbBits
	low := uint64(limbAt(limbs, i)) | uint64(limbAt(limbs, i+1))<<limbBits
	return low>>s | uint64(limbAt(limbs, i+2))<<(2*limbBits-s)
}

// limbAt is limb i, and 0 beyond the high end.
func limbAt(limbs []uint32, i int) uint32 {
	if i < len(limbs) {
		return limbs[i]
	}
	return 0
}

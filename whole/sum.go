package whole

import "cincture/nat"

// Cmp is -1, 0 or 1: a is less than b, the same, greater.
func Cmp(a, b Int) int {
	switch {
	case a.below && b.below:
		return nat.Cmp(b.abs, a.abs)
	case a.below:
		return -1
	case b.below:
		return 1
	}
	return nat.Cmp(a.abs, b.abs)
}

// Neg is a with its sign turned.
func Neg(a Int) Int {
	return signed(!a.below, fresh(a.abs))
}

// Add is a and b together.
func Add(a, b Int) Int {
	return join(a, b.abs, b.below)
}

// Sub is a less b.
func Sub(a, b Int) Int {
	return join(a, b.abs, !b.below)
}

// Mul is a times b.
func Mul(a, b Int) Int {
	return signed(a.below != b.below, nat.Mul(a.abs, b.abs))
}

// join is a and abs together, abs with the sign that below tells.
func join(a Int, abs nat.Nat, below bool) Int {
	if a.below == below {
		return signed(below, nat.Add(a.abs, abs))
	}
	if left, ok := nat.Sub(a.abs, abs); ok {
		return signed(a.below, left)
	}
	left, _ := nat.Sub(abs, a.abs)
	return signed(below, left)
}

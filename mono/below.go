package mono

import "cincture/api"

// mostDegree is where Below cuts its degree.
const mostDegree = 20

// Below is all monomials of the first n variables of Degree at most d, by Cmp; n is cut to 0 to MaxVars, d to -1 to 20.
func Below(n, d int) []api.Mono {
	n, d = min(max(n, 0), api.MaxVars), min(d, mostDegree)
	if d < 0 {
		return nil
	}
	list := []api.Mono{{}}
	if n == 0 {
		return list
	}
	for a := next(api.Mono{}, n); Degree(a) <= d; a = next(a, n) {
		list = append(list, a)
	}
	return list
}

// next is the one behind a by Cmp, among the monomials of the first n variables; n is from 1 on.
// The last exponent that is not 0 can give one to the variable ahead of it; what is left of it then goes as far back as it can.
func next(a api.Mono, n int) api.Mono {
	last := Vars(a) - 1
	if last < 1 { // nothing of this Degree is behind a power of the first variable
		var first api.Mono
		first[n-1] = a[0] + 1
		return first
	}
	left := a[last] - 1
	a[last] = 0
	a[last-1]++
	a[n-1] = left
	return a
}

package poly

import (
	"math"
	"testing"
)

func TestDegreeTopVars(t *testing.T) { // P803
	for _, c := range []struct {
		s      string
		degree int
		tops   [3]int
		vars   int
	}{
		{"", -1, [3]int{}, 0}, {"7", 0, [3]int{}, 0}, {"1 x", 1, [3]int{1, 0, 0}, 1}, {"1 y", 1, [3]int{0, 1, 0}, 2}, {"1 z", 1, [3]int{0, 0, 1}, 3},
		{"5, 1/2 x2y, -1 z3, 3 x", 3, [3]int{2, 1, 3}, 3}, {"1 x2, 1 y", 2, [3]int{2, 1, 0}, 2}, {"1 xz, 1 x", 2, [3]int{1, 0, 1}, 3}, {"1 x3, 1 y2", 3, [3]int{3, 2, 0}, 2},
		{"1 x5, 1 y3z3", 6, [3]int{5, 3, 3}, 3}, {"1 x2y, 1 xy2", 3, [3]int{2, 2, 0}, 2}, {"1 x255", 255, [3]int{255, 0, 0}, 1}, {"1 x255y255z255, 1", 765, [3]int{255, 255, 255}, 3}, {"1 x128y128, 1 z255", 256, [3]int{128, 128, 255}, 3},
		{"1 x, 1 y, -1 y", 1, [3]int{1, 0, 0}, 1}, {"1 x5, -1 x5, 1 y", 1, [3]int{0, 1, 0}, 2},
	} {
		p := from(t, c.s)
		isSame(t, "Degree "+c.s, Degree(p), c.degree)
		isSame(t, "Tops "+c.s, [3]int{Top(p, 0), Top(p, 1), Top(p, 2)}, c.tops)
		isSame(t, "Vars "+c.s, Vars(p), c.vars)
		for _, i := range []int{-1, -3, -256, 3, 4, 256, math.MinInt, math.MaxInt} {
			isSame(t, "Top of no variable "+c.s, Top(p, i), 0)
		}
	}
	for _, s := range some() {
		p := from(t, s)
		degree, tops, vars := -1, [3]int{}, 0
		for m := range modelOf(s) {
			degree = max(degree, m[0]+m[1]+m[2])
			for i, e := range m {
				tops[i] = max(tops[i], e)
				if e > 0 {
					vars = max(vars, i+1)
				}
			}
		}
		isSame(t, "Degree "+s, Degree(p), degree)
		isSame(t, "Tops "+s, [3]int{Top(p, 0), Top(p, 1), Top(p, 2)}, tops)
		isSame(t, "Vars "+s, Vars(p), vars)
	}
}

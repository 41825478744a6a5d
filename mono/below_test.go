package mono

import (
	"fmt"
	"math"
	"slices"
	"testing"

	"cincture/api"
)

func TestBelow(t *testing.T) { // P702
	one := []api.Mono{{}}
	for _, c := range []struct {
		n, d int
		want []api.Mono
	}{
		{0, -1, nil}, {1, -1, nil}, {3, -1, nil},
		{0, 0, one}, {1, 0, one}, {2, 0, one}, {3, 0, one}, {0, 1, one}, {0, 20, one},
		{1, 1, []api.Mono{{}, {1}}}, {1, 3, []api.Mono{{}, {1}, {2}, {3}}},
		{2, 1, []api.Mono{{}, {0, 1}, {1}}}, {2, 2, []api.Mono{{}, {0, 1}, {1}, {0, 2}, {1, 1}, {2}}},
		{3, 1, []api.Mono{{}, {0, 0, 1}, {0, 1}, {1}}},
		{3, 2, []api.Mono{{}, {0, 0, 1}, {0, 1}, {1}, {0, 0, 2}, {0, 1, 1}, {0, 2}, {1, 0, 1}, {1, 1}, {2}}},
	} {
		isList(t, fmt.Sprintf("Below %d, %d", c.n, c.d), Below(c.n, c.d), c.want)
	}
}

// All degrees, of all numbers of variables, and of such as are cut.
func TestBelowCuts(t *testing.T) { // P702
	degrees := []int{math.MinInt, math.MinInt32, -256, -2, 255, 256, 65536, math.MaxInt32, math.MaxInt - 1, math.MaxInt}
	for d := -1; d <= 25; d++ {
		degrees = append(degrees, d)
	}
	ordered := ranked()
	for _, n := range []int{math.MinInt, -256, -2, -1, 0, 1, 2, 3, 4, 5, 255, 256, math.MaxInt - 1, math.MaxInt} {
		for _, d := range degrees {
			isList(t, fmt.Sprintf("Below %d, %d", n, d), Below(n, d), among(ordered, n, min(d, 20)))
		}
	}
}

// ranked is all monomials of exponents up to 20, in the order of the chapter.
func ranked() []api.Mono {
	var exponents []uint8
	for e := range 21 {
		exponents = append(exponents, uint8(e))
	}
	l := of(exponents...)
	slices.SortFunc(l, func(a, b api.Mono) int { return rank(a) - rank(b) })
	return l
}

// among is those of l with no other than the first n variables, whose exponents together are at most d.
func among(l []api.Mono, n, d int) []api.Mono {
	var out []api.Mono
	for _, a := range l {
		if total(a) <= d && (n >= 1 || a[0] == 0) && (n >= 2 || a[1] == 0) && (n >= 3 || a[2] == 0) {
			out = append(out, a)
		}
	}
	return out
}

func TestBelowCounts(t *testing.T) { // P702
	for d := range 21 {
		isSame(t, "one variable", len(Below(1, d)), d+1)
		isSame(t, "two variables", len(Below(2, d)), (d+1)*(d+2)/2)
		isSame(t, "three variables", len(Below(3, d)), (d+1)*(d+2)*(d+3)/6)
	}
}

// A list that was answered may be written into, and made longer, without any effect on the next one.
func TestBelowIsNew(t *testing.T) { // P702
	for n := range api.MaxVars + 1 {
		first, second := Below(n, 4), Below(n, 4)
		want := slices.Clone(second)
		for i := range first {
			first[i] = api.Mono{9, 9, 9}
		}
		clear(first[len(first):cap(first)])
		isList(t, "answered ahead", second, want)
		isList(t, "answered behind", Below(n, 4), want)
	}
}

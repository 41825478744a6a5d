package mono

import (
	"slices"
	"testing"

	"cincture/api"
)

func isSame[T comparable](t *testing.T, what string, got, want T) {
	t.Helper()
	if got != want {
		t.Errorf("%s: %v, not %v", what, got, want)
	}
}

func isList(t *testing.T, what string, got, want []api.Mono) {
	t.Helper()
	if !slices.Equal(got, want) {
		t.Errorf("%s: %d monomials %.90v, not %d %.90v", what, len(got), got, len(want), want)
	}
}

// of is all monomials whose exponents are among those.
func of(exponents ...uint8) []api.Mono {
	var l []api.Mono
	for _, i := range exponents {
		for _, j := range exponents {
			for _, k := range exponents {
				l = append(l, api.Mono{i, j, k})
			}
		}
	}
	return l
}

// total is all exponents together.
func total(a api.Mono) int {
	return int(a[0]) + int(a[1]) + int(a[2])
}

// rank grows with a by the order of the chapter: Degree first, then the exponents from the first variable on.
func rank(a api.Mono) int {
	return ((total(a)*256+int(a[0]))*256+int(a[1]))*256 + int(a[2])
}

func sign(n int) int {
	switch {
	case n < 0:
		return -1
	case n > 0:
		return 1
	}
	return 0
}

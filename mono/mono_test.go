package mono

import (
	"fmt"
	"testing"

	"cincture/api"
)

// edges is where exponents of eight binary digits may go wrong.
func edges() []api.Mono {
	return of(0, 1, 2, 127, 128, 254, 255)
}

func TestMul(t *testing.T) { // P701
	for _, c := range []struct {
		a, b, want api.Mono
		ok         bool
	}{
		{api.Mono{}, api.Mono{}, api.Mono{}, true},
		{api.Mono{1, 2, 3}, api.Mono{}, api.Mono{1, 2, 3}, true},
		{api.Mono{1, 2, 3}, api.Mono{4, 0, 5}, api.Mono{5, 2, 8}, true},
		{api.Mono{255, 0, 0}, api.Mono{0, 255, 255}, api.Mono{255, 255, 255}, true},
		{api.Mono{200, 1, 1}, api.Mono{55, 1, 1}, api.Mono{255, 2, 2}, true},
		{api.Mono{200, 1, 1}, api.Mono{56, 1, 1}, api.Mono{}, false},
		{api.Mono{1, 200, 1}, api.Mono{1, 56, 1}, api.Mono{}, false},
		{api.Mono{1, 1, 200}, api.Mono{1, 1, 56}, api.Mono{}, false},
		{api.Mono{255, 255, 255}, api.Mono{255, 255, 255}, api.Mono{}, false},
		{api.Mono{255, 255, 255}, api.Mono{0, 0, 1}, api.Mono{}, false},
		{api.Mono{255, 255, 255}, api.Mono{}, api.Mono{255, 255, 255}, true},
	} {
		holdProduct(t, c.a, c.b, c.want, c.ok)
		holdProduct(t, c.b, c.a, c.want, c.ok)
	}
}

func holdProduct(t *testing.T, a, b, want api.Mono, ok bool) {
	t.Helper()
	got, is := Mul(a, b)
	if got != want || is != ok {
		t.Errorf("Mul %v, %v: %v %v, not %v %v", a, b, got, is, want, ok)
	}
}

// All exponents that a variable may have, with all others, at each place.
func TestMulEachExponent(t *testing.T) { // P701
	for place := range api.MaxVars {
		for i := range api.MaxExp + 1 {
			for k := range api.MaxExp + 1 {
				a, b, want := api.Mono{1, 2, 3}, api.Mono{4, 0, 5}, api.Mono{5, 2, 8}
				a[place], b[place], want[place] = uint8(i), uint8(k), uint8(i+k)
				ok := i+k <= api.MaxExp
				if !ok {
					want = api.Mono{}
				}
				holdProduct(t, a, b, want, ok)
			}
		}
	}
}

// What is handed in stays as it is, and is no part of what is answered.
func TestMulKeepsNothing(t *testing.T) { // P701
	a, b := api.Mono{1, 2, 3}, api.Mono{4, 0, 5}
	got, _ := Mul(a, b)
	a[0], b[1] = 9, 9
	isSame(t, "behind", got, api.Mono{5, 2, 8})
	got[2] = 9
	isSame(t, "a", a, api.Mono{9, 2, 3})
	isSame(t, "b", b, api.Mono{4, 9, 5})
	a = api.Mono{250, 250, 250}
	Mul(a, api.Mono{1, 1, 6})
	isSame(t, "refused", a, api.Mono{250, 250, 250})
}

func TestDegree(t *testing.T) { // P701
	for _, c := range []struct {
		a    api.Mono
		want int
	}{
		{api.Mono{}, 0}, {api.Mono{1, 2, 3}, 6}, {api.Mono{7, 0, 0}, 7}, {api.Mono{0, 7, 0}, 7}, {api.Mono{0, 0, 7}, 7},
		{api.Mono{255, 0, 0}, 255}, {api.Mono{255, 1, 0}, 256}, {api.Mono{0, 1, 255}, 256}, {api.Mono{128, 0, 128}, 256}, {api.Mono{255, 255, 255}, 765},
	} {
		isSame(t, fmt.Sprint("Degree ", c.a), Degree(c.a), c.want)
	}
	for _, a := range edges() {
		isSame(t, fmt.Sprint("Degree ", a), Degree(a), total(a))
	}
}

func TestVars(t *testing.T) { // P701
	isSame(t, "Vars of 1", Vars(api.Mono{}), 0)
	for _, e := range []uint8{1, 2, 128, 255} {
		for _, c := range []struct {
			a    api.Mono
			want int
		}{
			{api.Mono{e, 0, 0}, 1}, {api.Mono{0, e, 0}, 2}, {api.Mono{e, e, 0}, 2}, {api.Mono{0, 0, e}, 3}, {api.Mono{e, 0, e}, 3}, {api.Mono{0, e, e}, 3}, {api.Mono{e, e, e}, 3},
		} {
			isSame(t, fmt.Sprint("Vars ", c.a), Vars(c.a), c.want)
		}
	}
}

func TestCmp(t *testing.T) { // P701
	for _, c := range []struct {
		a, b api.Mono
		want int
	}{
		{api.Mono{0, 1, 0}, api.Mono{1, 0, 0}, -1},
		{api.Mono{0, 0, 1}, api.Mono{0, 1, 0}, -1},
		{api.Mono{}, api.Mono{0, 0, 1}, -1},
		{api.Mono{1, 0, 0}, api.Mono{0, 0, 2}, -1},         // the Degree ahead of the exponents
		{api.Mono{255, 0, 0}, api.Mono{0, 255, 1}, -1},     // a Degree above 255
		{api.Mono{1, 0, 2}, api.Mono{1, 1, 1}, -1},         // the second variable, the first is alike
		{api.Mono{1, 0, 9}, api.Mono{1, 9, 0}, -1},         // not the last
		{api.Mono{1, 0, 9}, api.Mono{2, 8, 0}, -1},         // the first, all are unlike
		{api.Mono{1, 8, 0}, api.Mono{2, 0, 7}, -1},         // the first, though the second is the other way round
		{api.Mono{0, 255, 255}, api.Mono{255, 0, 255}, -1}, // far apart
		{api.Mono{3, 2, 1}, api.Mono{3, 2, 1}, 0},
		{api.Mono{255, 255, 255}, api.Mono{255, 255, 255}, 0},
		{api.Mono{}, api.Mono{}, 0},
	} {
		isSame(t, fmt.Sprint("Cmp ", c.a, c.b), Cmp(c.a, c.b), c.want)
		isSame(t, fmt.Sprint("Cmp ", c.b, c.a), Cmp(c.b, c.a), -c.want)
	}
}

func TestPairs(t *testing.T) { // P701
	for _, list := range [][]api.Mono{of(0, 1, 2, 3, 4, 5), edges()} {
		for _, a := range list {
			for _, b := range list {
				holdPair(t, a, b)
			}
		}
	}
}

// holdPair holds Cmp against a number that grows with the order, and Divides against what is left of each exponent.
func holdPair(t *testing.T, a, b api.Mono) {
	t.Helper()
	if got, want := Cmp(a, b), sign(rank(a)-rank(b)); got != want {
		t.Errorf("Cmp %v, %v: %v, not %v", a, b, got, want)
	}
	left := [3]int{int(b[0]) - int(a[0]), int(b[1]) - int(a[1]), int(b[2]) - int(a[2])}
	if got, want := Divides(a, b), min(left[0], left[1], left[2]) >= 0; got != want {
		t.Errorf("Divides %v, %v: %v, not %v", a, b, got, want)
	}
}

func TestDivides(t *testing.T) { // P701
	for _, c := range []struct {
		a, b api.Mono
		want bool
	}{
		{api.Mono{}, api.Mono{}, true}, {api.Mono{}, api.Mono{0, 0, 1}, true}, {api.Mono{1, 2, 3}, api.Mono{1, 2, 3}, true}, {api.Mono{1, 0, 2}, api.Mono{1, 2, 3}, true},
		{api.Mono{1, 2, 3}, api.Mono{1, 0, 2}, false}, {api.Mono{2, 0, 0}, api.Mono{1, 255, 255}, false}, {api.Mono{0, 2, 0}, api.Mono{255, 1, 255}, false}, {api.Mono{0, 0, 2}, api.Mono{255, 255, 1}, false},
		{api.Mono{1, 0, 0}, api.Mono{}, false}, {api.Mono{255, 255, 255}, api.Mono{255, 255, 254}, false}, {api.Mono{255, 255, 254}, api.Mono{255, 255, 255}, true},
	} {
		isSame(t, fmt.Sprint("Divides ", c.a, c.b), Divides(c.a, c.b), c.want)
	}
}

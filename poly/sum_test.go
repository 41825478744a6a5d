package poly

import (
	"fmt"
	"math"
	"math/big"
	"testing"

	"cincture/api"
	"cincture/rat"
)

func TestPairs(t *testing.T) { // P802
	list := some()
	for _, a := range list {
		for _, b := range list {
			holdPair(t, a, b)
		}
	}
}

// holdPair holds all that two polynomials come to against what their models tell.
func holdPair(t *testing.T, a, b string) {
	t.Helper()
	p, q, x, y, what := from(t, a), from(t, b), modelOf(a), modelOf(b), a+" and "+b
	isPoly(t, "Add "+what, Add(p, q), x.plus(y, big.NewRat(1, 1)))
	isPoly(t, "Sub "+what, Sub(p, q), x.plus(y, big.NewRat(-1, 1)))
	product, ok := Mul(p, q)
	want, is := x.times(y)
	isSame(t, "Mul "+what, ok, is)
	isPoly(t, "Mul "+what, product, want)
	isPoly(t, "the first behind "+what, p, x)
	isPoly(t, "the second behind "+what, q, y)
}

func TestSumsByText(t *testing.T) { // P802
	for _, c := range [][5]string{ // a, b, their sum, a less b, product
		{"1 x, 1", "1 x, -1", "2 x", "2", "-1, 1 x2"},
		{"1 x, 2 y", "1 x, 2 y", "4 y, 2 x", "", "4 y2, 4 xy, 1 x2"},
		{"1 x", "", "1 x", "1 x", ""},
		{"", "1 x", "1 x", "-1 x", ""},
		{"1/2 x, 1/3 y", "1/2 x, -1/3 y", "1 x", "2/3 y", "-1/9 y2, 1/4 x2"},
		{"1 z, 1 y", "1 x", "1 z, 1 y, 1 x", "1 z, 1 y, -1 x", "1 xz, 1 xy"},
		{"1, 1 x, 1 x2", "-1, 1 x", "2 x, 1 x2", "2, 1 x2", "-1, 1 x3"},
		{"-3/4", "8/9 xyz", "-3/4, 8/9 xyz", "-3/4, -8/9 xyz", "-2/3 xyz"},
	} {
		a, b, what := from(t, c[0]), from(t, c[1]), c[0]+" and "+c[1]
		product, ok := Mul(a, b)
		isSame(t, "Add "+what, text(Add(a, b)), c[2])
		isSame(t, "Sub "+what, text(Sub(a, b)), c[3])
		isSame(t, "Mul "+what, text(product), c[4])
		isSame(t, "Mul "+what, ok, true)
	}
}

func TestScale(t *testing.T) { // P802
	for _, s := range some() {
		for _, r := range []string{"0", "1", "-1", "2", "-3/2", "1/7", "18446744073709551616/3"} {
			p := from(t, s)
			isPoly(t, "Scale "+s+" by "+r, Scale(p, number(t, r)), model{}.plus(modelOf(s), ratio(r)))
			isPoly(t, "behind "+s, p, modelOf(s))
		}
	}
	isSame(t, "Scale", text(Scale(from(t, "1 x, 1"), number(t, "-3/2"))), "-3/2, -3/2 x")
}

func TestMulTooFar(t *testing.T) { // P802
	for _, c := range []struct {
		a, b string
		ok   bool
	}{
		{"1 x200", "1 x55", true}, {"1 x200", "1 x56", false}, {"1 y200", "1 y55", true}, {"1 y200", "1 y56", false}, {"1 z200", "1 z55", true}, {"1 z200", "1 z56", false},
		{"1 x255y255z255", "1/2", true}, {"1 x255y255z255", "1 x", false}, {"1 x255y255z255", "1 y", false}, {"1 x255y255z255", "1 z", false}, {"1 x255y255z255", "1 x255y255z255", false}, {"1 x255y255z255", "", true},
		{"1 x255", "1 y255z255", true}, {"1 x128", "1 x128", false}, {"1 x127", "1 x128", true}, {"1 x255", "1 x255", false},
		{"1 x200, 1", "1 x200, 1", false}, {"1 x200, 1", "1, 1 x56", false}, {"1 x200, 1", "1 y255, 1 x55", true}, {"1 x200, 1", "2 x55z255", true},
		{"1 x200, 1 y, 1", "1, 1 y255", false}, {"1 x200, 1 y200", "1 x55, 1 y55", true}, {"1 x200, 1 y200, 1 z200", "1 x55, 1 y55, 1 z56", false},
		{"1 x200, -1 x200", "1 x200", true}, // a term that is none
		{"1 x200, -1 y200", "1 x55, 1 y55", true},
	} {
		for _, two := range [][2]string{{c.a, c.b}, {c.b, c.a}} {
			p, ok := Mul(from(t, two[0]), from(t, two[1]))
			what := "Mul " + two[0] + " and " + two[1]
			isSame(t, what, ok, c.ok)
			want, is := modelOf(two[0]).times(modelOf(two[1]))
			isSame(t, what+": model", is, c.ok)
			isPoly(t, what, p, want)
		}
	}
}

// Each two exponents that a variable may have, at each place.
func TestMulEachExponent(t *testing.T) { // P802
	for place := range api.MaxVars {
		for i := range 256 {
			for _, k := range []int{0, 1, 127, 128, 254 - i, 255 - i, 256 - i, 255} {
				if k < 0 || k > 255 {
					continue
				}
				var a, b, sum api.Mono
				a[place], b[place], sum[place] = uint8(i), uint8(k), uint8(i+k)
				p, ok := Mul(New(Term{a, rat.Of(2)}), New(Term{b, rat.Of(3)}, Term{C: rat.Of(0)}))
				want := ""
				if i+k <= 255 {
					want = text(New(Term{sum, rat.Of(6)}))
				}
				isSame(t, fmt.Sprint("Mul ", a, b), ok, i+k <= 255)
				isSame(t, fmt.Sprint("Mul ", a, b), text(p), want)
			}
		}
	}
}

func TestDiff(t *testing.T) { // P802
	for _, c := range []struct {
		s    string
		want [3]string
	}{
		{"", [3]string{}}, {"5", [3]string{}}, {"1 x", [3]string{"1", "", ""}}, {"1 y", [3]string{"", "1", ""}}, {"1 z", [3]string{"", "", "1"}},
		{"5, 1/2 x2y, -1 z3, 3 x", [3]string{"3, 1 xy", "1/2 x2", "-3 z2"}},
		{"1/255 x255, 1 y255z2", [3]string{"1 x254", "255 y254z2", "2 y255z"}},
		{"1 x255y255z255", [3]string{"255 x254y255z255", "255 x255y254z255", "255 x255y255z254"}},
		{"2/3 x128, 1 x", [3]string{"1, 256/3 x127", "", ""}},
	} {
		p := from(t, c.s)
		for i, want := range c.want {
			isSame(t, fmt.Sprint("Diff ", c.s, " by ", i), text(Diff(p, i)), want)
		}
		isPoly(t, "behind "+c.s, p, modelOf(c.s))
	}
	for _, s := range some() {
		for i := range 3 {
			want := model{}
			for m, d := range modelOf(s) {
				e := m[i]
				if m[i]--; e > 0 {
					want[m] = new(big.Rat).Mul(d, big.NewRat(int64(e), 1))
				}
			}
			isPoly(t, fmt.Sprint("Diff ", s, " by ", i), Diff(from(t, s), i), want)
		}
		for _, i := range []int{-1, -2, -256, 3, 4, 256, math.MinInt, math.MaxInt} {
			isPoly(t, fmt.Sprint("Diff ", s, " by ", i), Diff(from(t, s), i), model{})
		}
	}
}

// The derivative of a product is that of the one times the other, both ways.
func TestDiffOfProducts(t *testing.T) { // P802
	s := source(21)
	for range 60 {
		p, q := from(t, s.polynomial(4, 5)), from(t, s.polynomial(4, 5))
		product, _ := Mul(p, q)
		for i := range 3 {
			left, _ := Mul(Diff(p, i), q)
			right, _ := Mul(p, Diff(q, i))
			isSame(t, "Diff of "+text(product), text(Diff(product, i)), text(Add(left, right)))
		}
	}
}

func TestAt(t *testing.T) { // P802
	for _, c := range [][3]string{
		{"", "1 2 3", "0"}, {"7/2", "1 2 3", "7/2"}, {"1 x", "1/2 2 3", "1/2"}, {"1 y", "1/2 2 3", "2"}, {"1 z", "1/2 2 3", "3"},
		{"5, 1/2 x2y, -1 z3, 3 x", "0 0 0", "5"}, {"5, 1/2 x2y, -1 z3, 3 x", "1 2 -1", "10"}, {"5, 1/2 x2y, -1 z3, 3 x", "1/2 4 1/3", "188/27"},
		{"1 x2, -2 xy, 1 y2", "5/7 5/7 9", "0"}, {"1 x2, -2 xy, 1 y2", "3 5 0", "4"}, {"1 x255z100", "-1 9 1", "-1"}, {"1 x254z100", "-1 9 1", "1"}, {"1 x255, 1 y254", "0 0 0", "0"},
		{"1 x255z255", "2 0 1/2", "1"}, {"1 x, 1 y, 1 z", "1/2 1/3 1/6", "1"}, {"1 xyz", "-1 -2 -3", "-6"}, {"1 x2y", "0 5 5", "0"},
	} {
		isSame(t, "At "+c[0]+" of "+c[1], At(from(t, c[0]), point(t, c[1])).Text(), c[2])
	}
	for _, s := range some() {
		for _, x := range []string{"0 0 0", "1 1 1", "-1 1 -1", "1/2 -3/4 5", "-2/3 7 0", "0 1/9 -4", "18446744073709551617 -1/18446744073709551616 3"} {
			p := from(t, s)
			isSame(t, "At "+s+" of "+x, At(p, point(t, x)).Text(), modelOf(s).at(ratios(x)).RatString())
			isPoly(t, "behind "+s, p, modelOf(s))
		}
	}
}

// What is answered has memory of its own, even where it is what was handed in.
func TestSumsAreNew(t *testing.T) { // P802
	p, q, half := from(t, "1/2 x, 2/3 y, 5/7"), from(t, "3/4 y, 1/5 z"), number(t, "1/2")
	product, _ := Mul(p, q)
	byOne, _ := Mul(p, Const(rat.Of(1)))
	itself, _ := Compose(p, [3]Poly{Var(0), Var(1), Var(2)})
	apart := []Poly{p, q, Add(p, q), Add(p, Poly{}), Add(Poly{}, p), Sub(p, q), Sub(p, Poly{}), Sub(Poly{}, p), Scale(p, half), Scale(p, rat.Of(1)), product, byOne, Diff(p, 0), Diff(p, 1), itself}
	areApart(t, "sums", kept(apart...))
	x := [3]rat.Rat{half, half, half}
	areApart(t, "At", kept(p), x[:1], []rat.Rat{At(Var(0), x)}, []rat.Rat{At(Const(half), x)}, []rat.Rat{At(from(t, "5/7"), x)})
	constant := Const(half)
	areApart(t, "At of a constant", kept(constant), []rat.Rat{At(constant, x)}, []rat.Rat{At(constant, x)})
	areApart(t, "p and p", kept(p), kept(Add(p, p)))
	isPoly(t, "p and p", Add(p, p), modelOf("1 x, 4/3 y, 10/7"))
	isPoly(t, "p less p", Sub(p, p), model{})
}

// Numbers of 2 to the 20th binary digits.
func TestLongNumbers(t *testing.T) { // P801, P802
	long := new(big.Int).Lsh(big.NewInt(1), 1<<20-1)
	c := number(t, long.String())
	p := New(Term{api.Mono{3}, c}, Term{C: rat.Of(1)})
	half := New(Term{api.Mono{3}, rat.Neg(c)}, Term{C: rat.Of(1)})
	isSame(t, "Add", text(Add(p, half)), "2")
	isSame(t, "Sub", text(Sub(p, p)), "")
	isSame(t, "Same", Same(p, Sub(Poly{}, Sub(Poly{}, p))), true)
	isSame(t, "Same", Same(p, half), false)
	isSame(t, "Terms", rat.Cmp(p.Terms()[1].C, c), 0)
	isSame(t, "Diff", rat.Cmp(At(Diff(p, 0), [3]rat.Rat{rat.Of(1)}), rat.Mul(c, rat.Of(3))), 0)
	product, ok := Mul(p, Var(2))
	isSame(t, "Mul", ok && Degree(product) == 4 && rat.Cmp(product.Terms()[1].C, c) == 0, true)
	composed, ok := Compose(p, [3]Poly{Var(1)})
	isSame(t, "Compose", ok && Top(composed, 1) == 3 && rat.Cmp(composed.Terms()[1].C, c) == 0, true)
}

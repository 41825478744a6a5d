package bound

import (
	"strconv"
	"strings"
	"testing"

	"cincture/poly"
	"cincture/rat"
	"cincture/span"
)

func TestOver(t *testing.T) { // P901
	for _, c := range []struct{ p, l, want string }{
		{"", "", "0 0"}, {"", "1 2, 3 4, 5 6", "0 0"}, {"7", "1 2, 3 4, 5 6", "7 7"}, {"-7/3", "", "-7/3 -7/3"},
		{"1 x", "-1 2", "-1 2"}, {"1 x", "", "0 0"}, {"1 y", "5 6, -1 2", "-1 2"}, {"1 z", "5 6, 7 8, -1 2", "-1 2"}, {"1 z", "5 6, 7 8", "0 0"},
		{"-1 x", "-1 2", "-2 1"}, {"1/3 x", "-1 2", "-1/3 2/3"}, {"-1/3 x", "-1 2", "-2/3 1/3"}, {"-2 x", "3 3", "-6 -6"},
		{"1 x2", "-1 2", "0 4"}, {"1 x2", "-2 1", "0 4"}, {"1 x2", "-3 -2", "4 9"}, {"1 x2", "2 3", "4 9"}, {"-1 x2", "-1 2", "-4 0"}, {"1 x3", "-1 2", "-1 8"}, {"1 x3", "-2 -1", "-8 -1"},
		{"1 x255", "-1 1", "-1 1"}, {"1 x254", "-1 1", "0 1"}, {"1 x255", "-1/2 0", "-1/57896044618658097711785492504343953926634992332820282019728792003956564819968 0"},
		{"1 x2, -1 x", "0 1", "-1 1"}, {"1 x2, -1 x", "1/4 1/2", "-7/16 0"}, {"1 x, -1 y", "0 1, 0 1", "-1 1"}, {"1 x2, -2 x, 1", "0 2", "-3 5"},
		{"1 xy", "-1 2, 3 4", "-4 8"}, {"1 xy", "-1 2, -3 4", "-6 8"}, {"1 xy", "-2 -1, -4 -3", "3 8"}, {"1 xy", "-2 -1, 3 4", "-8 -3"}, {"1 x2y", "-1 2, -3 4", "-12 16"}, {"1 xy2", "-1 2, -3 4", "-16 32"},
		{"1 xyz", "-1 2, 3 4, -5 1", "-40 20"}, {"-1 xyz", "-1 1, 2 2, 1 5", "-10 10"}, {"1 xyz2", "-1 2, 3 4, -5 1", "-100 200"}, {"1 xz", "-1 2, 100 200, 0 3", "-3 6"}, {"1 yz", "100 200, -1 2, 0 3", "-3 6"},
		{"2 xy, -3 z, 5", "-1 2, 3 4, 0 1/3", "-4 21"}, {"1 x, 1 x, -1/2 x", "0 2", "0 3"}, {"1 x, -1 x", "5 6", "0 0"}, {"1 x, 2 y, 4 z, 8", "0 1, 0 1, 0 1", "8 15"},
		{"1 x, 1 x2, 1 x3", "-1 1", "-2 3"}, {"1 x2, 1 x2y, 1 y2", "-1 1, 2 3", "4 13"},
	} {
		p, l := from(t, c.p), threeOf(t, c.l)
		isSame(t, "Over "+c.p+" of "+c.l, text(Over(p, l)), c.want)
	}
}

// polys is texts of polynomials: 0, constants, each variable alone, some in less than all variables, many terms, great exponents, long numbers.
func polys() []string {
	l := []string{
		"", "1", "-7/3", "1 x", "-1 y", "1/2 z", "1 x, 1", "1 x, -1 y", "2 xy, 1 z, 7", "2/3 x2, -2/3 y2, 1/7 z2, 1 xyz", "1 x2, -1 x", "1 x3, -1 x, 1/5", "1 x2y, -3 xy2, 1/2 y", "1 yz, -1", "1 xz, 3",
		"1 x4, -4 x3, 6 x2, -4 x, 1", "5 x255", "1 x31y32z33, -1 x30y31z32", "1 x40, -1 y41, 1 z42",
		"340282366920938463463374607431768211457/18446744073709551616 x, -18446744073709551615/4294967297, 4294967296 y",
	}
	s := source(9)
	for _, terms := range []int{2, 3, 5, 8, 20} {
		l = append(l, s.polynomial(terms, 1, 4), s.polynomial(terms, 2, 4), s.polynomial(terms, 3, 4))
	}
	return l
}

// boxTexts is boxes of one side to three: on either side of 0, at 0, about it, narrow, wide, and by the way.
func boxTexts() []string {
	l := []string{
		"0 1", "-1 0", "-1 2", "1 2", "-3 -2", "-1/2 1/3", "18446744073709551615/18446744073709551616 1",
		"0 1, 0 1", "-1 2, -3 1", "1 2, -2 -1", "-3 -2, -1/3 1/7", "0 1/3, -2 0",
		"0 1, 0 1, 0 1", "-1 2, -3 1, -1 1", "1 2, -2 -1, 0 3", "-3 -2, -1 1, -1/3 1/7", "-2 2, 1/2 2/3, -5 -9/2",
	}
	s := source(11)
	for range 5 {
		l = append(l, s.sides(1), s.sides(2), s.sides(3))
	}
	return l
}

// Sides of no width, too, and such that a box has not.
func TestOverByModel(t *testing.T) { // P901
	some := append(boxTexts(), "", "0 0", "1 1", "-2 -2, 1/3 1/3", "0 0, 5 5, -1 1", "-1 1, 0 0, 2 2", "1/2 1/2, -1/3 -1/3, 7 7")
	for _, p := range polys() {
		made, a := from(t, p), modelOf(p)
		for _, l := range some {
			isSame(t, "Over "+p+" of "+l, text(Over(made, threeOf(t, l))), a.over(three(sidesOf(l))).String())
		}
	}
}

// How the terms of a polynomial came together is not to be seen.
func TestOverOfOneForm(t *testing.T) { // P901
	l := threeOf(t, "-1 2, -3 1, 1/2 5")
	want := text(Over(from(t, "1 x2, -1 x, 3 yz"), l))
	square, _ := poly.Mul(poly.Var(0), poly.Var(0))
	split := from(t, "3 yz, 2 x, 1/2 x2, -3 x, 1/2 x2, 5 z, -5 z")
	isSame(t, "all together", text(Over(split, l)), want)
	isSame(t, "by sums", text(Over(poly.Add(poly.Sub(square, poly.Var(0)), from(t, "3 yz")), l)), want)
	isSame(t, "0 of sums", text(Over(poly.Sub(split, split), l)), "0 0")
}

// Of sides whose Lo is above their Hi nothing is said, but that the call ends.
func TestOverEnds(t *testing.T) { // P901
	for _, p := range polys() {
		for _, l := range []string{"1 0", "2 -1", "-1 -2, 3 1", "0 1, 1 0, 5 -5", "2 -1, 2 -1, 2 -1"} {
			Over(from(t, p), threeOf(t, l))
		}
	}
}

// All monomials that a claim may have, and many powers of one side.
func TestOverOfMany(t *testing.T) { // P901
	var l, ones []string
	for i := range 9 {
		for k := range 9 {
			for n := range 9 {
				l = append(l, "1/3 x"+strconv.Itoa(i)+"y"+strconv.Itoa(k)+"z"+strconv.Itoa(n))
			}
		}
	}
	p := strings.Join(l, ", ")
	for _, b := range []string{"-1/2 3/4, 1/3 2, -2 -1", "0 1, 0 1, 0 1"} {
		isSame(t, "Over of many on "+b, text(Over(from(t, p), threeOf(t, b))), modelOf(p).over(three(sidesOf(b))).String())
	}
	for i := range 256 {
		ones = append(ones, "1 x"+strconv.Itoa(i))
	}
	isSame(t, "Over of all powers", text(Over(from(t, strings.Join(ones, ", ")), threeOf(t, "-1 1"))), "-127 256")
}

// Numbers of as many binary digits as the promises speak of.
func TestOverOfLong(t *testing.T) { // P901
	far := span.Pow(span.Pow(span.Of(rat.Of(-1<<16)), 255), 255).Lo // -2 to the 1040400
	isSame(t, "far", far.Sign(), -1)
	got := Over(from(t, "1 x, -1 y"), [3]span.Span{{Lo: far, Hi: rat.Of(1)}, {Hi: rat.Neg(far)}})
	isSame(t, "Lo", rat.Cmp(got.Lo, rat.Add(far, far)), 0)
	isSame(t, "Hi", rat.Cmp(got.Hi, rat.Of(1)), 0)
}

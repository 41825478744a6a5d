package rat

import (
	"fmt"
	"math"
	"math/big"
	"testing"

	"cincture/api"
	"cincture/whole"
)

func TestPairs(t *testing.T) { // P302
	list := some()
	for _, a := range list {
		x := from(t, a)
		isRat(t, "Neg", Neg(x), new(big.Rat).Neg(a))
		isSame(t, "Sign", x.Sign(), a.Sign())
		for _, b := range list {
			holdPair(t, a, b)
		}
	}
}

// holdPair holds all that two numbers come to against what the library tells.
func holdPair(t *testing.T, a, b *big.Rat) {
	t.Helper()
	x, y := from(t, a), from(t, b)
	what := fmt.Sprintf("%.60v, %.60v", a, b)
	isSame(t, "Cmp "+what, Cmp(x, y), a.Cmp(b))
	isRat(t, "Add "+what, Add(x, y), new(big.Rat).Add(a, b))
	isRat(t, "Sub "+what, Sub(x, y), new(big.Rat).Sub(a, b))
	isRat(t, "Mul "+what, Mul(x, y), new(big.Rat).Mul(a, b))
	q, ok := Div(x, y)
	isSame(t, "Div "+what, ok, b.Sign() != 0)
	if ok {
		isRat(t, "Div "+what, q, new(big.Rat).Quo(a, b))
	} else {
		isRat(t, "Div "+what, q, new(big.Rat))
	}
	isRat(t, "a behind "+what, x, a)
	isRat(t, "b behind "+what, y, b)
}

func TestSumsByText(t *testing.T) { // P302
	for _, c := range [][6]string{ // a, b, their sum, a less b, product, quotient
		{"1/2", "1/3", "5/6", "1/6", "1/6", "3/2"},
		{"1/2", "-1/2", "0", "1", "-1/4", "-1"},
		{"1/6", "1/6", "1/3", "0", "1/36", "1"},
		{"1/6", "1/3", "1/2", "-1/6", "1/18", "1/2"},
		{"1/10", "1/15", "1/6", "1/30", "1/150", "3/2"},
		{"-3/4", "2", "5/4", "-11/4", "-3/2", "-3/8"},
		{"2/3", "3/2", "13/6", "-5/6", "1", "4/9"},
		{"-2/3", "-3/2", "-13/6", "5/6", "1", "4/9"},
		{"0", "-5/7", "-5/7", "5/7", "0", "0"},
		{"4", "-2", "2", "6", "-8", "-2"},
		{"1/18446744073709551616", "18446744073709551616", "340282366920938463463374607431768211457/18446744073709551616", "-340282366920938463463374607431768211455/18446744073709551616", "1", "1/340282366920938463463374607431768211456"},
	} {
		a, b, what := parse(t, c[0]), parse(t, c[1]), c[0]+" and "+c[1]
		q, ok := Div(a, b)
		isSame(t, what, ok, true)
		isSame(t, "Add "+what, Add(a, b).Text(), c[2])
		isSame(t, "Sub "+what, Sub(a, b).Text(), c[3])
		isSame(t, "Mul "+what, Mul(a, b).Text(), c[4])
		isSame(t, "Div "+what, q.Text(), c[5])
	}
}

func TestCmpTellsOrder(t *testing.T) { // P302
	list := []string{"-18446744073709551616", "-2", "-3/2", "-4/3", "-1", "-2/3", "-1/2", "-1/18446744073709551616", "0", "1/18446744073709551617", "1/18446744073709551616", "1/3", "1/2", "2/3", "18446744073709551615/18446744073709551616", "1", "18446744073709551617/18446744073709551616", "7/2", "4", "18446744073709551616"}
	for i, a := range list {
		for k, b := range list {
			want := 0
			if i < k {
				want = -1
			} else if i > k {
				want = 1
			}
			isSame(t, a+", "+b, Cmp(parse(t, a), parse(t, b)), want)
		}
	}
}

func TestDivByZero(t *testing.T) { // P302
	for _, a := range some() {
		for _, zero := range []Rat{{}, Of(0), Neg(Of(0)), Sub(from(t, a), from(t, a))} {
			q, ok := Div(from(t, a), zero)
			isSame(t, "Div", ok, false)
			isRat(t, "Div", q, new(big.Rat))
		}
	}
}

func TestPow(t *testing.T) { // P302
	for _, s := range []string{"0", "1", "-1", "2", "-2", "1/2", "-2/3", "3/2", "-10/7", "18446744073709551616/3"} {
		a, want := parse(t, s), big.NewRat(1, 1)
		by, _ := new(big.Rat).SetString(s)
		for n := 0; n <= api.MaxExp; n++ {
			isRat(t, fmt.Sprintf("Pow %s, %d", s, n), Pow(a, n), want)
			want.Mul(want, by)
		}
	}
	isSame(t, "Pow", Pow(parse(t, "-2/3"), 3).Text(), "-8/27")
	isSame(t, "Pow", Pow(parse(t, "-2/3"), 4).Text(), "16/81")
}

func TestPowCuts(t *testing.T) { // P302
	for _, a := range some() {
		for _, n := range []int{0, -1, -2, -255, -256, math.MinInt} {
			isRat(t, fmt.Sprintf("Pow %v, %d", a, n), Pow(from(t, a), n), big.NewRat(1, 1))
		}
	}
	isSame(t, "Pow 0, 0", Pow(Rat{}, 0).Text(), "1")
	for _, s := range []string{"0", "1", "-1", "1/2", "-2/3"} {
		want := Pow(parse(t, s), 255).Text()
		for _, n := range []int{256, 257, 511, 512, 1 << 32, math.MaxInt} {
			isSame(t, fmt.Sprintf("Pow %s, %d", s, n), Pow(parse(t, s), n).Text(), want)
		}
	}
}

func TestFloor(t *testing.T) { // P302
	for _, c := range [][2]string{{"7/2", "3"}, {"-7/2", "-4"}, {"4", "4"}, {"-4", "-4"}, {"0", "0"}, {"1/9", "0"}, {"-1/9", "-1"}, {"8/9", "0"}, {"-8/9", "-1"}, {"18446744073709551615/18446744073709551616", "0"}, {"-18446744073709551617/18446744073709551616", "-2"}, {"-18446744073709551616", "-18446744073709551616"}} {
		isSame(t, "Floor "+c[0], Floor(parse(t, c[0])).Text(), c[1])
	}
	for _, a := range some() {
		isWhole(t, fmt.Sprintf("Floor %v", a), Floor(from(t, a)), new(big.Int).Div(a.Num(), a.Denom()))
	}
}

// Numbers of as many binary digits as the promises speak of, with and without something in common.
func TestLong(t *testing.T) { // P301 P302
	a, b := new(big.Rat).SetFrac(power(1<<18, -1), power(1<<17, 0)), new(big.Rat).SetFrac(new(big.Int).Neg(power(1<<17, 0)), power(1<<16, -1))
	holdPair(t, a, b)
	holdPair(t, b, a)
	n, d := new(big.Int).Mul(power(1<<19, 1), power(1<<18, -1)), new(big.Int).Mul(power(1<<19, -1), power(1<<18, -1))
	r, ok := New(wholeFrom(t, n), wholeFrom(t, d))
	isSame(t, "New", ok, true)
	isRat(t, "New", r, new(big.Rat).SetFrac(n, d))
	isWhole(t, "Floor", Floor(r), big.NewInt(1))
}

// No answer lies where something lies that was handed in, nor where another answer does; nor do its two parts with one another.
func TestAnswersAreNew(t *testing.T) { // P301 P302
	n, d := wholeFrom(t, power(100, 3)), wholeFrom(t, power(90, 1))
	a, _ := New(n, d)
	less, _ := New(n, whole.Neg(d))
	same, _ := New(n, n)
	zero, one := Rat{}, Of(1)
	byOne, _ := Div(a, one)
	ofOne, _ := Div(one, a)
	ofOneLess, _ := Div(one, less)
	answers := map[string]Rat{"New": a, "New by one below 0": less, "New of the same": same, "Neg": Neg(a), "Add 0": Add(a, zero), "Add to 0": Add(zero, a), "Sub 0": Sub(a, zero), "Sub from 0": Sub(zero, a),
		"Mul": Mul(a, one), "Mul too": Mul(one, a), "Div": byOne, "Div of 1": ofOne, "Div of 1 by one below 0": ofOneLess, "Pow": Pow(a, 1), "Num, Den": {a.Num(), a.Den()}, "again": {a.Num(), a.Den()}, "whole": Mul(a, Rat{num: a.Den()}), "Floor": {num: Floor(Rat{num: n})}}
	seen := map[uintptr]string{place(n): "what was handed in", place(d): "what was handed in"}
	for what, x := range answers {
		for _, part := range []whole.Int{x.num, x.den} {
			if other, ok := seen[place(part)]; ok && part.Sign() != 0 {
				t.Errorf("%s lies where %s lies", what, other)
			}
			seen[place(part)] = what
		}
	}
	isRat(t, "a behind", a, new(big.Rat).SetFrac(power(100, 3), power(90, 1)))
}

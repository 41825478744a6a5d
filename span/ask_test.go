package span

import (
	"fmt"
	"math"
	"math/big"
	"testing"

	"cincture/dyad"
	"cincture/rat"
)

func TestHas(t *testing.T) { // P503
	for _, a := range some() {
		for _, r := range numbers() {
			isSame(t, fmt.Sprintf("Has %v, %v", a, r), Has(from(t, a), ratFrom(t, r)), a.lo.Cmp(r) <= 0 && r.Cmp(a.hi) <= 0)
		}
	}
	for _, c := range []struct {
		r    string
		want bool
	}{{"1", true}, {"3", true}, {"2", true}, {"0", false}, {"7/2", false}, {"-2", false}, {"18446744073709551615/18446744073709551616", false}, {"18446744073709551617/18446744073709551616", true}} {
		isSame(t, "Has "+c.r, Has(parse(t, "1", "3"), number(t, c.r)), c.want)
	}
}

func TestWithinInside(t *testing.T) { // P503
	b := parse(t, "1", "3")
	for _, c := range []struct {
		lo, hi         string
		within, inside bool
	}{
		{"1", "3", true, false}, {"2", "5/2", true, true}, {"2", "2", true, true}, {"1", "2", true, false}, {"2", "3", true, false}, {"1", "1", true, false}, {"3", "3", true, false},
		{"0", "2", false, false}, {"2", "4", false, false}, {"0", "4", false, false}, {"4", "5", false, false}, {"-1", "0", false, false}, {"0", "1", false, false}, {"3", "4", false, false},
	} {
		a := parse(t, c.lo, c.hi)
		isSame(t, "Within "+c.lo+" "+c.hi, Within(a, b), c.within)
		isSame(t, "Inside "+c.lo+" "+c.hi, Inside(a, b), c.inside)
	}
	isSame(t, "Inside itself", Inside(Of(rat.Of(2)), Of(rat.Of(2))), false)
	isSame(t, "Within itself", Within(Of(rat.Of(2)), Of(rat.Of(2))), true)
}

// By the promise's own words: b has all of a, and neither end of b is in a.
func TestInsideByHas(t *testing.T) { // P503
	for _, a := range some() {
		for _, b := range some() {
			x, y := from(t, a), from(t, b)
			within := Has(y, x.Lo) && Has(y, x.Hi)
			isSame(t, fmt.Sprintf("Within %v, %v", a, b), Within(x, y), within)
			isSame(t, fmt.Sprintf("Inside %v, %v", a, b), Inside(x, y), within && !Has(x, y.Lo) && !Has(x, y.Hi))
		}
	}
}

func TestHullMeet(t *testing.T) { // P503
	a := parse(t, "1", "3")
	for _, c := range []struct {
		lo, hi, hull, meet string
		ok                 bool
	}{
		{"2", "5", "1 5", "2 3", true}, {"-1", "1", "-1 3", "1 1", true}, {"3", "4", "1 4", "3 3", true}, {"0", "9", "0 9", "1 3", true}, {"2", "2", "1 3", "2 2", true}, {"1", "3", "1 3", "1 3", true}, {"5/3", "7/3", "1 3", "5/3 7/3", true},
		{"4", "5", "1 5", "0 0", false}, {"0", "1/2", "0 3", "0 0", false}, {"-2", "-1", "-2 3", "0 0", false}, {"-2", "18446744073709551615/18446744073709551616", "-2 3", "0 0", false},
	} {
		b := parse(t, c.lo, c.hi)
		for _, two := range [][2]Span{{a, b}, {b, a}} {
			met, ok := Meet(two[0], two[1])
			isSame(t, "Hull "+c.lo+" "+c.hi, text(Hull(two[0], two[1])), c.hull)
			isSame(t, "Meet "+c.lo+" "+c.hi, text(met), c.meet)
			isSame(t, "Meet "+c.lo+" "+c.hi, ok, c.ok)
		}
	}
}

func TestMidWidthSign(t *testing.T) { // P503
	for _, c := range []struct {
		lo, hi, mid, width string
		sign               int
	}{
		{"1", "2", "3/2", "1", 1}, {"-2", "-1/2", "-5/4", "3/2", -1}, {"-1", "2", "1/2", "3", 0}, {"0", "2", "1", "2", 0}, {"-2", "0", "-1", "2", 0}, {"0", "0", "0", "0", 0}, {"5", "5", "5", "0", 1}, {"-5", "-5", "-5", "0", -1}, {"1/18446744073709551616", "1", "18446744073709551617/36893488147419103232", "18446744073709551615/18446744073709551616", 1}, {"-1", "1", "0", "2", 0},
	} {
		a, what := parse(t, c.lo, c.hi), c.lo+" "+c.hi
		isSame(t, "Mid "+what, Mid(a).Text(), c.mid)
		isSame(t, "Width "+what, Width(a).Text(), c.width)
		isSame(t, "Sign "+what, Sign(a), c.sign)
	}
	for _, a := range some() {
		x, what := from(t, a), fmt.Sprint(a)
		sign := a.lo.Sign()
		if a.lo.Sign() != a.hi.Sign() {
			sign = 0
		}
		isRat(t, "Mid "+what, Mid(x), along(a, big.NewRat(1, 2)))
		isRat(t, "Width "+what, Width(x), new(big.Rat).Sub(a.hi, a.lo))
		isSame(t, "Sign "+what, Sign(x), sign)
		isSpan(t, "behind "+what, x, a)
	}
}

func TestRound(t *testing.T) { // P503
	for _, c := range []struct {
		lo, hi string
		bits   int
		want   string
	}{
		{"1/3", "1/3", 2, "1/4 3/8"}, {"-1/3", "5", 2, "-3/8 6"}, {"1", "7", 1, "1 8"}, {"-7", "-5", 2, "-8 -4"}, {"-7", "-5", 3, "-7 -5"}, {"0", "1/3", 1, "0 1/2"}, {"-1/3", "0", 1, "-1/2 0"}, {"5/7", "5/7", 8, "91/128 183/256"}, {"-100", "100", 0, "-128 128"}, {"-100", "100", -3, "-128 128"},
	} {
		isSame(t, fmt.Sprintf("Round %s %s, %d", c.lo, c.hi, c.bits), text(Round(parse(t, c.lo, c.hi), c.bits)), c.want)
	}
	for _, a := range some() {
		for _, bits := range []int{math.MinInt, -1, 0, 1, 2, 3, 31, 32, 33, 64, 200, 4096, 4097, math.MaxInt} {
			x, what := from(t, a), fmt.Sprintf("Round %v, %d", a, bits)
			got := Round(x, bits)
			isSame(t, what, text(got), dyad.Down(x.Lo, bits).Text()+" "+dyad.Up(x.Hi, bits).Text())
			isSame(t, what+" has all", Within(x, got), true)
			isSame(t, what+" again", Same(Round(got, bits), got), true)
		}
	}
}

func TestSame(t *testing.T) { // P503
	a := parse(t, "1/2", "2")
	for _, c := range []struct {
		lo, hi string
		want   bool
	}{{"1/2", "2", true}, {"1/2", "3", false}, {"0", "2", false}, {"-1/2", "2", false}, {"-2", "-1/2", false}, {"1/2", "1/2", false}, {"2", "2", false}} {
		isSame(t, "Same "+c.lo+" "+c.hi, Same(a, parse(t, c.lo, c.hi)), c.want)
		isSame(t, "Same "+c.lo+" "+c.hi, Same(parse(t, c.lo, c.hi), a), c.want)
	}
}

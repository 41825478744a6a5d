package span

import (
	"fmt"
	"math"
	"math/big"
	"testing"

	"cincture/api"
)

func TestPairs(t *testing.T) { // P502 P503
	list := some()
	for _, a := range list {
		for _, b := range list {
			holdPair(t, a, b)
		}
	}
}

// holdPair holds all that two Spans come to against what the library tells of their ends:
// sums and products are greatest and least at ends.
func holdPair(t *testing.T, a, b ends) {
	t.Helper()
	x, y := from(t, a), from(t, b)
	what := fmt.Sprintf("%.90v, %.90v", a, b)
	sums, differences, products := atEnds(a, b, (*big.Rat).Add), atEnds(a, b, (*big.Rat).Sub), atEnds(a, b, (*big.Rat).Mul)
	isSpan(t, "Add "+what, Add(x, y), sums)
	isSpan(t, "Sub "+what, Sub(x, y), differences)
	isSpan(t, "Mul "+what, Mul(x, y), products)
	isSpan(t, "Hull "+what, Hull(x, y), ends{least(a.lo, b.lo), most(a.hi, b.hi)})
	isSame(t, "Within "+what, Within(x, y), a.lo.Cmp(b.lo) >= 0 && a.hi.Cmp(b.hi) <= 0)
	isSame(t, "Inside "+what, Inside(x, y), a.lo.Cmp(b.lo) > 0 && a.hi.Cmp(b.hi) < 0)
	isSame(t, "Same "+what, Same(x, y), a.lo.Cmp(b.lo) == 0 && a.hi.Cmp(b.hi) == 0)
	common := ends{most(a.lo, b.lo), least(a.hi, b.hi)}
	met, ok := Meet(x, y)
	isSame(t, "Meet "+what, ok, common.lo.Cmp(common.hi) <= 0)
	if ok {
		isSpan(t, "Meet "+what, met, common)
	} else {
		isZero(t, "Meet "+what, met)
	}
	isSpan(t, "a behind "+what, x, a)
	isSpan(t, "b behind "+what, y, b)
}

// atEnds is from the least to the greatest of what the ends of a and b come to.
func atEnds(a, b ends, do func(z, x, y *big.Rat) *big.Rat) ends {
	var l []*big.Rat
	for _, x := range []*big.Rat{a.lo, a.hi} {
		for _, y := range []*big.Rat{b.lo, b.hi} {
			l = append(l, do(new(big.Rat), x, y))
		}
	}
	return ends{least(l...), most(l...)}
}

func TestSumsByText(t *testing.T) { // P502
	for _, c := range [][7]string{ // ends of a, of b, sum, difference, product
		{"1", "2", "3", "5", "4 7", "-4 -1", "3 10"},
		{"-1", "2", "-3", "4", "-4 6", "-5 5", "-6 8"},
		{"-4", "3", "-2", "1", "-6 4", "-5 5", "-6 8"},
		{"-2", "-1", "3", "4", "1 3", "-6 -4", "-8 -3"},
		{"-2", "-1", "-4", "-3", "-6 -4", "1 3", "3 8"},
		{"-2", "3", "-5", "-4", "-7 -1", "2 8", "-15 10"},
		{"-5", "-4", "-2", "3", "-7 -1", "-8 -2", "-15 10"},
		{"-2", "3", "4", "5", "2 8", "-7 -1", "-10 15"},
		{"0", "2", "-3", "0", "-3 2", "0 5", "-6 0"},
		{"-2", "0", "-3", "0", "-5 0", "-2 3", "0 6"},
		{"0", "0", "-7", "9", "-7 9", "-9 7", "0 0"},
		{"1/2", "1/2", "-1/3", "1/3", "1/6 5/6", "1/6 5/6", "-1/6 1/6"},
	} {
		a, b, what := parse(t, c[0], c[1]), parse(t, c[2], c[3]), c[0]+" "+c[1]+" and "+c[2]+" "+c[3]
		isSame(t, "Add "+what, text(Add(a, b)), c[4])
		isSame(t, "Sub "+what, text(Sub(a, b)), c[5])
		isSame(t, "Mul "+what, text(Mul(a, b)), c[6])
	}
}

// Each of a and each of b on its own: a Span taken twice is not one number taken twice.
func TestSelf(t *testing.T) { // P502
	a := parse(t, "-1", "2")
	isSame(t, "Sub", text(Sub(a, a)), "-3 3")
	isSame(t, "Mul", text(Mul(a, a)), "-2 4")
	isSame(t, "Pow", text(Pow(a, 2)), "0 4")
}

func TestScale(t *testing.T) { // P502
	for _, c := range [][4]string{{"1", "3", "2", "2 6"}, {"1", "3", "-2", "-6 -2"}, {"-1", "3", "-1/2", "-3/2 1/2"}, {"1", "3", "0", "0 0"}, {"-3", "-1", "-1", "1 3"}, {"0", "1/3", "3/2", "0 1/2"}} {
		isSame(t, "Scale "+c[0]+" "+c[1]+", "+c[2], text(Scale(parse(t, c[0], c[1]), number(t, c[2]))), c[3])
	}
	for _, a := range some() {
		for _, r := range numbers() {
			what := fmt.Sprintf("Scale %v, %v", a, r)
			isSpan(t, what, Scale(from(t, a), ratFrom(t, r)), atEnds(a, ends{r, r}, (*big.Rat).Mul))
		}
	}
}

// raise is a to the n.
func raise(a *big.Rat, n int) *big.Rat {
	e := big.NewInt(int64(n))
	return new(big.Rat).SetFrac(new(big.Int).Exp(a.Num(), e, nil), new(big.Int).Exp(a.Denom(), e, nil))
}

// powers is what Pow is to answer: ends to the n, and 0 to the n where it lies between.
func powers(a ends, n int) ends {
	l := []*big.Rat{raise(a.lo, n), raise(a.hi, n)}
	if a.lo.Sign() < 0 && a.hi.Sign() > 0 {
		l = append(l, raise(new(big.Rat), n))
	}
	if n == 0 {
		l = l[:1]
	}
	return ends{least(l...), most(l...)}
}

func TestPow(t *testing.T) { // P502
	for _, a := range some() {
		for n := range 12 {
			isSpan(t, fmt.Sprintf("Pow %v, %d", a, n), Pow(from(t, a), n), powers(a, n))
		}
	}
	for _, a := range []ends{{big.NewRat(-1, 1), big.NewRat(1, 2)}, {big.NewRat(-3, 2), big.NewRat(2, 1)}, {big.NewRat(-5, 3), big.NewRat(-1, 3)}, {big.NewRat(1, 7), big.NewRat(4, 1)}} {
		for n := range api.MaxExp + 1 {
			isSpan(t, fmt.Sprintf("Pow %v, %d", a, n), Pow(from(t, a), n), powers(a, n))
		}
	}
}

func TestPowByText(t *testing.T) { // P502
	for _, c := range []struct {
		lo, hi string
		n      int
		want   string
	}{
		{"-1", "2", 2, "0 4"}, {"-3", "2", 2, "0 9"}, {"-2", "2", 4, "0 16"}, {"-3", "-2", 2, "4 9"}, {"2", "3", 2, "4 9"}, {"-3", "2", 3, "-27 8"}, {"-3", "-2", 3, "-27 -8"}, {"-3", "2", 1, "-3 2"}, {"-3", "0", 4, "0 81"}, {"0", "3", 4, "0 81"}, {"0", "0", 4, "0 0"}, {"-1/2", "1/3", 2, "0 1/4"},
		{"-3", "2", 0, "1 1"}, {"0", "0", 0, "1 1"}, {"-3", "0", 0, "1 1"}, {"2", "3", 0, "1 1"}, {"-3", "-2", 0, "1 1"},
	} {
		isSame(t, fmt.Sprintf("Pow %s %s, %d", c.lo, c.hi, c.n), text(Pow(parse(t, c.lo, c.hi), c.n)), c.want)
	}
}

// The exponent is cut ahead of all else: of an even one beyond the limit it is the limit, which is odd, that counts.
func TestPowCuts(t *testing.T) { // P502
	for _, a := range some() {
		for _, n := range []int{-1, -2, -255, -256, math.MinInt} {
			isSpan(t, fmt.Sprintf("Pow %v, %d", a, n), Pow(from(t, a), n), ends{big.NewRat(1, 1), big.NewRat(1, 1)})
		}
	}
	for _, a := range []ends{{big.NewRat(-1, 1), big.NewRat(1, 2)}, {big.NewRat(-2, 1), big.NewRat(-1, 3)}, {new(big.Rat), big.NewRat(1, 3)}} {
		for _, n := range []int{255, 256, 257, 510, 512, 999, 1 << 32, math.MaxInt - 1, math.MaxInt} {
			isSpan(t, fmt.Sprintf("Pow %v, %d", a, n), Pow(from(t, a), n), ends{raise(a.lo, 255), raise(a.hi, 255)})
		}
	}
}

// Numbers out of the Spans themselves: what they come to is in the answer.
func TestNoneIsLost(t *testing.T) { // P502
	s := source(19)
	steps := []*big.Rat{new(big.Rat), big.NewRat(1, 3), big.NewRat(1, 2), big.NewRat(6, 7), big.NewRat(1, 1)}
	for range 300 {
		a := between(big.NewRat(int64(s.below(40))-20, int64(s.below(6))+1), big.NewRat(int64(s.below(40))-20, int64(s.below(6))+1))
		b := between(big.NewRat(int64(s.below(40))-20, int64(s.below(6))+1), big.NewRat(int64(s.below(40))-20, int64(s.below(6))+1))
		x, y, n := from(t, a), from(t, b), s.below(6)
		sum, difference, product, power := Add(x, y), Sub(x, y), Mul(x, y), Pow(x, n)
		for _, u := range steps {
			p := along(a, u)
			isSame(t, fmt.Sprintf("Pow %v, %d has %v", a, n, p), Has(power, ratFrom(t, raise(p, n))), true)
			for _, v := range steps {
				q := along(b, v)
				what := fmt.Sprintf("%v, %v has %v, %v", a, b, p, q)
				isSame(t, "Add "+what, Has(sum, ratFrom(t, new(big.Rat).Add(p, q))), true)
				isSame(t, "Sub "+what, Has(difference, ratFrom(t, new(big.Rat).Sub(p, q))), true)
				isSame(t, "Mul "+what, Has(product, ratFrom(t, new(big.Rat).Mul(p, q))), true)
			}
		}
	}
}

// along is the number that lies by that part of the way from lo to hi.
func along(a ends, part *big.Rat) *big.Rat {
	way := new(big.Rat).Sub(a.hi, a.lo)
	return way.Add(way.Mul(way, part), a.lo)
}

package dyad

import (
	"fmt"
	"math/big"
	"testing"

	"cincture/whole"
)

func TestPairs(t *testing.T) { // P402
	list := some()
	for _, a := range list {
		for _, b := range list {
			holdPair(t, a, b)
		}
	}
}

// holdPair holds all that two numbers come to against what the library tells.
func holdPair(t *testing.T, a, b *big.Rat) {
	t.Helper()
	x, y := from(t, a), from(t, b)
	what := fmt.Sprintf("%.60v, %.60v", a, b)
	sum := new(big.Rat).Add(a, b)
	isSame(t, "Cmp "+what, Cmp(x, y), a.Cmp(b))
	isDyad(t, "Add "+what, Add(x, y), sum)
	isDyad(t, "Sub "+what, Sub(x, y), new(big.Rat).Sub(a, b))
	isDyad(t, "Mul "+what, Mul(x, y), new(big.Rat).Mul(a, b))
	isDyad(t, "Mid "+what, Mid(x, y), sum.Mul(sum, big.NewRat(1, 2)))
	isDyad(t, "a behind "+what, x, a)
	isDyad(t, "b behind "+what, y, b)
}

func TestSumsByText(t *testing.T) { // P402
	for _, c := range [][6]string{ // a, b, their sum, a less b, product, half of the sum
		{"1/2", "1/4", "3/4", "1/4", "1/8", "3/8"},
		{"-3/8", "5", "37/8", "-43/8", "-15/8", "37/16"},
		{"3/4", "-3/4", "0", "3/2", "-9/16", "0"},
		{"1/2", "1/2", "1", "0", "1/4", "1/2"},
		{"3/4", "1/4", "1", "1/2", "3/16", "1/2"},
		{"0", "7/2", "7/2", "-7/2", "0", "7/4"},
		{"-6", "10", "4", "-16", "-60", "2"},
		{"1", "2", "3", "-1", "2", "3/2"},
		{"-1", "-2", "-3", "1", "2", "-3/2"},
		{"18446744073709551616", "1/18446744073709551616", "340282366920938463463374607431768211457/18446744073709551616", "340282366920938463463374607431768211455/18446744073709551616", "1", "340282366920938463463374607431768211457/36893488147419103232"},
	} {
		a, b, what := parse(t, c[0]), parse(t, c[1]), c[0]+" and "+c[1]
		isSame(t, "Add "+what, Add(a, b).Text(), c[2])
		isSame(t, "Sub "+what, Sub(a, b).Text(), c[3])
		isSame(t, "Mul "+what, Mul(a, b).Text(), c[4])
		isSame(t, "Mid "+what, Mid(a, b).Text(), c[5])
	}
}

func TestCmpTellsOrder(t *testing.T) { // P402
	list := []string{"-18446744073709551616", "-5", "-4", "-7/2", "-3/2", "-1", "-3/4", "-1/2", "-1/18446744073709551616", "0", "1/36893488147419103232", "1/18446744073709551616", "18446744073709551615/36893488147419103232", "1/2", "9223372036854775809/18446744073709551616", "3/4", "1", "18446744073709551617/18446744073709551616", "7/2", "4", "5", "18446744073709551616", "18446744073709551617"}
	for i, a := range list {
		for k, b := range list {
			want := 0
			if i < k {
				want = -1
			} else if i > k {
				want = 1
			}
			isSame(t, a+", "+b, Cmp(parse(t, a), parse(t, b)), want)
		}
	}
}

// Exponents of sums and products go beyond those that New takes.
func TestExponentsAreNotCut(t *testing.T) { // P402
	up, down := New(whole.Of(3), 4096), New(whole.Of(-5), -4096)
	isDyad(t, "Mul", Mul(up, up), times(big.NewInt(9), 8192))
	isDyad(t, "Mul", Mul(down, down), times(big.NewInt(25), -8192))
	isDyad(t, "Mul", Mul(up, down), times(big.NewInt(-15), 0))
	isDyad(t, "Mid", Mid(down, Dyad{}), times(big.NewInt(-5), -4097))
	isDyad(t, "Add", Add(up, up), times(big.NewInt(3), 4097))
	isDyad(t, "Add", Add(up, down), new(big.Rat).Add(times(big.NewInt(3), 4096), times(big.NewInt(-5), -4096)))
	isDyad(t, "Sub", Sub(down, up), new(big.Rat).Sub(times(big.NewInt(-5), -4096), times(big.NewInt(3), 4096)))
	isSame(t, "Cmp", Cmp(Mul(up, up), up), 1)
	isSame(t, "Cmp", Cmp(Mul(down, down), New(whole.Of(1), -4096)), -1)
}

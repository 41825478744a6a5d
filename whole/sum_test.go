package whole

import (
	"fmt"
	"math"
	"math/big"
	"testing"

	"cincture/api"
)

func TestPairs(t *testing.T) { // P202
	list := some()
	for _, a := range list {
		isInt(t, "Neg", Neg(from(t, a)), new(big.Int).Neg(a))
		for _, b := range list {
			holdPair(t, a, b)
		}
	}
}

// holdPair holds all that two numbers come to against what the library tells.
func holdPair(t *testing.T, a, b *big.Int) {
	t.Helper()
	x, y := from(t, a), from(t, b)
	what := fmt.Sprintf("%v, %v", a, b)
	isSame(t, "Cmp "+what, Cmp(x, y), a.Cmp(b))
	isInt(t, "Add "+what, Add(x, y), new(big.Int).Add(a, b))
	isInt(t, "Sub "+what, Sub(x, y), new(big.Int).Sub(a, b))
	isInt(t, "Mul "+what, Mul(x, y), new(big.Int).Mul(a, b))
	holdDiv(t, a, b)
	isInt(t, "a behind "+what, x, a)
	isInt(t, "b behind "+what, y, b)
}

// holdDiv asks what the promise says of q and r, which leaves one pair alone.
func holdDiv(t *testing.T, a, b *big.Int) {
	t.Helper()
	what := fmt.Sprintf("Div %v, %v", a, b)
	q, r, ok := Div(from(t, a), from(t, b))
	isSame(t, what, ok, b.Sign() != 0)
	if !ok {
		isInt(t, what, q, new(big.Int))
		isInt(t, what, r, new(big.Int))
		return
	}
	left := toBig(r)
	if left.Sign() != 0 && left.Sign() != b.Sign() || left.CmpAbs(b) >= 0 {
		t.Fatalf("%s: %v is left", what, left)
	}
	sum := new(big.Int).Mul(toBig(q), b)
	if sum.Add(sum, left).Cmp(a) != 0 {
		t.Fatalf("%s: %v times it, and %v, is %v", what, q.Text(), left, sum)
	}
	isInt(t, what, q, toBig(q))
	isInt(t, what, r, left)
}

func toBig(a Int) *big.Int {
	b := new(big.Int).SetBytes([]byte(a.Abs().Bytes()))
	if a.Sign() < 0 {
		b.Neg(b)
	}
	return b
}

func TestCmpTellsOrder(t *testing.T) { // P202
	list := []string{"-18446744073709551617", "-18446744073709551616", "-4294967296", "-3", "-2", "-1", "0", "1", "2", "4294967296", "18446744073709551616", "18446744073709551617"}
	for i, a := range list {
		for k, b := range list {
			want := 0
			if i < k {
				want = -1
			} else if i > k {
				want = 1
			}
			isSame(t, a+", "+b, Cmp(parse(t, a), parse(t, b)), want)
		}
	}
}

func TestDivByText(t *testing.T) { // P202
	for _, c := range [][4]string{
		{"-7", "2", "-4", "1"}, {"7", "2", "3", "1"}, {"7", "-2", "-4", "-1"}, {"-7", "-2", "3", "-1"},
		{"6", "2", "3", "0"}, {"-6", "2", "-3", "0"}, {"6", "-2", "-3", "0"}, {"-6", "-2", "3", "0"},
		{"1", "5", "0", "1"}, {"-1", "5", "-1", "4"}, {"1", "-5", "-1", "-4"}, {"-1", "-5", "0", "-1"},
		{"0", "3", "0", "0"}, {"0", "-3", "0", "0"}, {"5", "5", "1", "0"}, {"-5", "5", "-1", "0"},
		{"5", "-1", "-5", "0"}, {"-5", "-1", "5", "0"},
		{"-9223372036854775808", "-1", "9223372036854775808", "0"},
		{"-18446744073709551615", "18446744073709551616", "-1", "1"},
		{"-18446744073709551616", "18446744073709551615", "-2", "18446744073709551614"},
		{"-1", "340282366920938463463374607431768211456", "-1", "340282366920938463463374607431768211455"},
	} {
		q, r, ok := Div(parse(t, c[0]), parse(t, c[1]))
		isSame(t, c[0]+" by "+c[1], ok, true)
		isSame(t, c[0]+" by "+c[1], q.Text(), c[2])
		isSame(t, c[0]+" by "+c[1]+" leaves", r.Text(), c[3])
	}
}

func TestDivByZero(t *testing.T) { // P202
	for _, a := range some() {
		for _, zero := range []Int{{}, Of(0), Neg(Of(0))} {
			q, r, ok := Div(from(t, a), zero)
			isSame(t, "Div", ok, false)
			isInt(t, "Div", q, new(big.Int))
			isInt(t, "Div", r, new(big.Int))
		}
	}
}

// What is left of a product, and one step to either side of it, where what is left is at its least and its greatest.
func TestDivOfProducts(t *testing.T) { // P202
	list := some()
	for _, b := range list {
		for _, q := range list {
			for more := int64(-1); more <= 1; more++ {
				a := new(big.Int).Mul(b, q)
				holdDiv(t, a.Add(a, big.NewInt(more)), b)
			}
		}
	}
}

func TestPow(t *testing.T) { // P202
	for _, a := range []int64{0, 1, -1, 2, -2, 3, -3, 7, -10, math.MaxInt32, math.MinInt64} {
		want := big.NewInt(1)
		for n := 0; n <= api.MaxExp; n++ {
			isInt(t, fmt.Sprintf("Pow %d, %d", a, n), Pow(Of(a), n), want)
			want.Mul(want, big.NewInt(a))
		}
	}
	for _, a := range some() {
		for _, n := range []int{1, 2, 3, 8, 17} {
			isInt(t, fmt.Sprintf("Pow %v, %d", a, n), Pow(from(t, a), n), new(big.Int).Exp(a, big.NewInt(int64(n)), nil))
		}
	}
}

func TestPowCuts(t *testing.T) { // P202
	for _, a := range some() {
		for _, n := range []int{0, -1, -2, -255, -256, math.MinInt} {
			isInt(t, fmt.Sprintf("Pow %v, %d", a, n), Pow(from(t, a), n), big.NewInt(1))
		}
	}
	isSame(t, "Pow 0, 0", Pow(Int{}, 0).Text(), "1")
	for _, a := range []int64{0, 1, -1, 2, -2, -3} {
		want := new(big.Int).Exp(big.NewInt(a), big.NewInt(255), nil)
		for _, n := range []int{255, 256, 257, 511, 512, 1 << 32, math.MaxInt} {
			isInt(t, fmt.Sprintf("Pow %d, %d", a, n), Pow(Of(a), n), want)
		}
	}
}

// Numbers of as many binary digits as the promises speak of.
func TestLong(t *testing.T) { // P202
	a, b := power(1<<19, -1), new(big.Int).Neg(power(1<<18, 1))
	holdPair(t, a, b)
	holdPair(t, b, a)
	isInt(t, "Pow", Pow(Of(-1<<62), 255), new(big.Int).Neg(power(62*255, 0)))
	isInt(t, "Pow", Pow(from(t, a), 2), new(big.Int).Mul(a, a))
}

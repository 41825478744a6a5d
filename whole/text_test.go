package whole

import (
	"math"
	"math/big"
	"strings"
	"testing"

	"cincture/api"
	"cincture/nat"
)

func TestZero(t *testing.T) { // P201
	var zero Int
	for _, a := range []Int{zero, Of(0), From(false, nat.Nat{}), From(true, nat.Nat{}), From(true, nat.Of(0)), parse(t, "0"), Neg(zero), Neg(Of(0))} {
		isInt(t, "0", a, new(big.Int))
		isSame(t, "Text", a.Text(), "0")
		isSame(t, "Sign", a.Sign(), 0)
		isSame(t, "Abs", a.Abs().Text(), "0")
		isSame(t, "Cmp", Cmp(a, zero), 0)
		isSame(t, "Cmp", Cmp(a, Of(-1)), 1)
		isSame(t, "Cmp", Cmp(a, Of(1)), -1)
	}
}

func TestOf(t *testing.T) { // P201
	for _, v := range []int64{0, 1, -1, 9, -9, 10, -10, math.MaxInt32, math.MinInt32, 1 << 32, -1 << 32, 1<<32 - 1, 1 - 1<<32, math.MaxInt64 - 1, math.MaxInt64, -math.MaxInt64, math.MinInt64} {
		isInt(t, "Of", Of(v), big.NewInt(v))
		isSame(t, "Text", Of(v).Text(), big.NewInt(v).String())
	}
	isSame(t, "the least", Of(math.MinInt64).Text(), "-9223372036854775808")
	isSame(t, "the greatest", Of(math.MaxInt64).Text(), "9223372036854775807")
}

func TestFrom(t *testing.T) { // P201
	for _, a := range some() {
		n := natFrom(t, a)
		isInt(t, "From", From(false, n), new(big.Int).Abs(a))
		isInt(t, "From", From(true, n), new(big.Int).Neg(new(big.Int).Abs(a)))
	}
}

func TestParseTakes(t *testing.T) { // P201
	for _, s := range []string{"0", "1", "-1", "9", "-9", "10", "-10", "-100", "4294967296", "-4294967296", "-9223372036854775808", "-9223372036854775809", "9223372036854775808", "-18446744073709551616"} {
		want, _ := new(big.Int).SetString(s, 10)
		isInt(t, s, parse(t, s), want)
		isSame(t, "Text", parse(t, s).Text(), s)
	}
}

func TestParseLong(t *testing.T) { // P201
	for _, digits := range []string{strings.Repeat("9", api.MaxDigits), "1" + strings.Repeat("0", api.MaxDigits-1), strings.Repeat("7", api.MaxDigits-1)} {
		for _, s := range []string{digits, "-" + digits} {
			want, _ := new(big.Int).SetString(s, 10)
			isInt(t, "Parse", parse(t, s), want)
			isSame(t, "Text", parse(t, s).Text(), s)
		}
	}
	for _, digits := range []string{strings.Repeat("9", api.MaxDigits+1), "1" + strings.Repeat("0", api.MaxDigits), strings.Repeat("1", 1<<16)} {
		refuses(t, digits)
		refuses(t, "-"+digits)
	}
}

func TestParseRefuses(t *testing.T) { // P201
	for _, s := range []string{"", "-", "-0", "--0", "--1", "---1", "+0", "+1", "-+1", "+-1", "00", "01", "-00", "-01", "-007", "1-", "-1-", "1-1", "-1-1", "- 1", " -1", "-1 ", " 1", "1 ", "-1\n", "1/2", "-1/2", "-1.0", "-1e3", "-0x1", "−1", "–1", "-\x00", "-1\x00", "\xff", "-\xff", "-½", "-١"} {
		refuses(t, s)
	}
	for c := range 256 {
		bad := string([]byte{byte(c)})
		if c >= '0' && c <= '9' {
			continue
		}
		refuses(t, "-"+bad)
		refuses(t, "-12345678901"+bad)
		refuses(t, "-"+bad+"12345678901")
		if c != '-' {
			refuses(t, bad+"-1")
			refuses(t, bad+"1")
		}
	}
}

func refuses(t *testing.T, s string) {
	t.Helper()
	a, e := Parse(s)
	if e != api.ErrForm || a.below || a.abs.Bits() != 0 {
		t.Errorf("Parse of %.40q: %v, %v", s, a.Text(), e)
	}
}

func TestTexts(t *testing.T) { // P201
	for _, a := range some() {
		x := from(t, a)
		isSame(t, "Text", x.Text(), a.String())
		isSame(t, "Sign", x.Sign(), a.Sign())
		isSame(t, "Abs", x.Abs().Text(), new(big.Int).Abs(a).String())
		isInt(t, "Parse", parse(t, a.String()), a)
	}
}

func TestTextOfMoreDigitsThanParseTakes(t *testing.T) { // P201
	a := parse(t, "-"+strings.Repeat("9", api.MaxDigits))
	isSame(t, "Text", Sub(a, Of(1)).Text(), "-1"+strings.Repeat("0", api.MaxDigits))
}

// No answer lies where something lies that was handed in, nor where another answer does.
func TestAnswersAreNew(t *testing.T) { // P201 P202
	n := natFrom(t, power(100, 3))
	a, zero, one := From(true, n), Int{}, Of(1)
	q, r, _ := Div(a, one)
	q2, r2, _ := Div(a, From(true, nat.Shl(n, 1)))
	_, r3, _ := Div(a, From(false, nat.Shl(n, 1)))
	answers := map[string]nat.Nat{"From": a.abs, "From too": From(false, n).abs, "Abs": a.Abs(), "Abs again": a.Abs(), "Neg": Neg(a).abs,
		"Add 0": Add(a, zero).abs, "Add to 0": Add(zero, a).abs, "Sub 0": Sub(a, zero).abs, "Sub from 0": Sub(zero, a).abs,
		"Mul": Mul(a, one).abs, "Mul too": Mul(one, a).abs, "Div": q.abs, "Div of a lesser one": r2.abs, "Div of an unlike one": r3.abs, "Pow": Pow(a, 1).abs}
	seen := map[uintptr]string{place(n): "what was handed in"}
	for what, x := range answers {
		if other, ok := seen[place(x)]; ok {
			t.Errorf("%s lies where %s lies", what, other)
		}
		seen[place(x)] = what
	}
	isInt(t, "r", r, new(big.Int))
	isInt(t, "q2", q2, new(big.Int))
	isInt(t, "a behind", a, new(big.Int).Neg(power(100, 3)))
}

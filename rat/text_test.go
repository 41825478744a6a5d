package rat

import (
	"math"
	"math/big"
	"strings"
	"testing"

	"cincture/api"
	"cincture/whole"
)

func TestZero(t *testing.T) { // P301
	var zero Rat
	made, _ := New(whole.Int{}, whole.Of(-9))
	quotient, _ := Div(zero, Of(-3))
	for _, a := range []Rat{zero, Of(0), made, parse(t, "0"), Neg(zero), Neg(Of(0)), Add(zero, zero), Mul(zero, parse(t, "-2/3")), Sub(parse(t, "2/3"), parse(t, "2/3")), quotient, Pow(zero, 3)} {
		isRat(t, "0", a, new(big.Rat))
		isSame(t, "Text", a.Text(), "0")
		isSame(t, "Num", a.Num().Text(), "0")
		isSame(t, "Den", a.Den().Text(), "1")
		isSame(t, "Sign", a.Sign(), 0)
		isSame(t, "Cmp", Cmp(a, zero), 0)
		isSame(t, "Cmp", Cmp(a, parse(t, "-1/9")), 1)
		isSame(t, "Cmp", Cmp(a, parse(t, "1/9")), -1)
		isSame(t, "Floor", Floor(a).Text(), "0")
	}
}

func TestOf(t *testing.T) { // P301
	for _, v := range []int64{0, 1, -1, 2, -5, math.MaxInt32, math.MinInt32, 1 << 32, math.MaxInt64, -math.MaxInt64, math.MinInt64} {
		isRat(t, "Of", Of(v), new(big.Rat).SetInt64(v))
		isSame(t, "Text", Of(v).Text(), big.NewInt(v).String())
	}
}

func TestNew(t *testing.T) { // P301
	list := wholes()
	for _, n := range list {
		for _, d := range list {
			a, ok := New(wholeFrom(t, n), wholeFrom(t, d))
			isSame(t, "New", ok, d.Sign() != 0)
			if !ok {
				isRat(t, "New by 0", a, new(big.Rat))
				continue
			}
			isRat(t, "New", a, new(big.Rat).SetFrac(n, d))
		}
	}
}

func TestNewByText(t *testing.T) { // P301
	for _, c := range []struct {
		n, d int64
		text string
	}{
		{6, 4, "3/2"}, {-6, 4, "-3/2"}, {6, -4, "-3/2"}, {-6, -4, "3/2"}, {0, 5, "0"}, {0, -5, "0"}, {6, 3, "2"}, {6, -3, "-2"}, {6, -6, "-1"}, {3, 6, "1/2"}, {1, -7, "-1/7"}, {10, 1, "10"}, {10, -1, "-10"},
		{math.MinInt64, math.MinInt64, "1"}, {math.MinInt64, -1, "9223372036854775808"}, {1, math.MinInt64, "-1/9223372036854775808"}, {math.MinInt64, 6, "-4611686018427387904/3"},
	} {
		a, ok := New(whole.Of(c.n), whole.Of(c.d))
		isSame(t, c.text, ok, true)
		isSame(t, c.text, a.Text(), c.text)
	}
}

func TestParseTakes(t *testing.T) { // P301
	for _, s := range []string{"0", "1", "-1", "7", "-7", "10", "1/2", "-1/2", "3/2", "-3/4", "100/9", "9/100", "1/4294967296", "-4294967297/4294967296", "18446744073709551616/3", "-18446744073709551617/18446744073709551616"} {
		want, _ := new(big.Rat).SetString(s)
		isRat(t, s, parse(t, s), want)
		isSame(t, "Text", parse(t, s).Text(), s)
	}
	for _, a := range some() {
		isRat(t, "Parse", parse(t, a.RatString()), a)
		isSame(t, "Text", from(t, a).Text(), a.RatString())
	}
}

func TestParseLong(t *testing.T) { // P301
	nines, ones := strings.Repeat("9", api.MaxDigits), "1"+strings.Repeat("0", api.MaxDigits-1)
	for _, s := range []string{nines, "-" + ones, ones + "/" + nines, "-" + nines + "/" + ones, "1/" + nines, "-1/" + ones} {
		want, _ := new(big.Rat).SetString(s)
		isRat(t, "Parse", parse(t, s), want)
		isSame(t, "Text", parse(t, s).Text(), s)
	}
	for _, s := range []string{nines + "9", ones + "0", "-" + nines + "9", "1/" + nines + "9", "1/" + ones + "0", ones + "0/" + nines, ones + "/" + nines + "9", nines + "/" + nines, ones + "/" + ones[:10], strings.Repeat("1", 1<<16) + "/2"} {
		refuses(t, s)
	}
}

func TestParseRefuses(t *testing.T) { // P301
	for _, s := range []string{
		"", "-", "/", "//", "-/", "1/", "-1/", "/2", "-/2", "/-2", "1//2", "1/2/", "/1/2", "1/2/3", "2/4", "-2/4", "6/3", "3/3", "-3/3", "0/1", "0/5", "-0", "-0/5", "-0/1", "3/1", "-3/1", "1/1", "3/0", "1/0", "-1/0", "0/0", "1/-2", "-1/-2", "-1/-1", "1/-0", "1/-1", "1/+2", "+1/2", "+1", "--1/2",
		"00", "01", "01/2", "-01/2", "1/02", "1/00", "1.5", "1e3", "0x1", " 1", "1 ", "1 /2", "1/ 2", " 1/2", "1/2 ", "1/2\n", "1\\2", "1:2", "1/2\x00", "\x00", "\xff", "½", "1⁄2", "1/٢", "1/a", "a/2", "18446744073709551616/4294967296", "4294967296/18446744073709551616",
	} {
		refuses(t, s)
	}
	for c := range 256 {
		if c >= '0' && c <= '9' {
			continue
		}
		bad := string([]byte{byte(c)})
		refuses(t, "1/2"+bad)
		refuses(t, "1/"+bad)
		refuses(t, "1/"+bad+"2")
		refuses(t, "1"+bad+"/2")
		refuses(t, bad+"/2")
		refuses(t, "1"+bad)
		if c != '-' {
			refuses(t, bad+"1/2")
			refuses(t, bad+"1")
		}
		if c != '/' {
			refuses(t, "1"+bad+"2")
		}
	}
}

func refuses(t *testing.T, s string) {
	t.Helper()
	a, e := Parse(s)
	if e != api.ErrForm || a.num.Sign() != 0 || a.den.Sign() != 0 {
		t.Errorf("Parse of %.40q: %.40s, %v", s, a.Text(), e)
	}
}

// Each quotient of small numbers has one text that is taken: that of the least denominator.
func TestParseTakesOneTextEach(t *testing.T) { // P301
	for n := int64(-12); n <= 12; n++ {
		for d := int64(0); d <= 12; d++ {
			s := big.NewInt(n).String() + "/" + big.NewInt(d).String()
			a, e := Parse(s)
			if d > 1 && big.NewRat(n, d).Denom().Int64() == d {
				isSame(t, s, e, api.OK)
				isSame(t, s, a.Text(), s)
			} else {
				refuses(t, s)
			}
		}
	}
}

func TestTextOfMoreDigitsThanParseTakes(t *testing.T) { // P301
	long := strings.Repeat("9", api.MaxDigits)
	a, ok := Div(Of(-1), Add(parse(t, long), Of(1)))
	isSame(t, "Div", ok, true)
	isSame(t, "Text", a.Text(), "-1/1"+strings.Repeat("0", api.MaxDigits))
	refuses(t, a.Text())
}

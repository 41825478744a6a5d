package dyad

import (
	"math/big"
	"strings"
	"testing"

	"cincture/api"
	"cincture/whole"
)

func TestParseTakes(t *testing.T) { // P401
	for _, s := range []string{"0", "1", "-1", "12", "-12", "1/2", "-1/2", "3/2", "-3/8", "1/1024", "-1023/1024", "1/4294967296", "-4294967297/4294967296", "18446744073709551617/18446744073709551616", "-1/340282366920938463463374607431768211456", "340282366920938463463374607431768211456"} {
		want, _ := new(big.Rat).SetString(s)
		isDyad(t, s, parse(t, s), want)
		isSame(t, "Text", parse(t, s).Text(), s)
	}
	for _, a := range some() {
		isDyad(t, "Parse", parse(t, a.RatString()), a)
		isSame(t, "Text", from(t, a).Text(), a.RatString())
	}
}

func TestParseRefuses(t *testing.T) { // P401
	for _, s := range []string{
		"1/3", "-1/3", "2/3", "1/5", "1/6", "-5/6", "5/12", "1/1000", "1/4294967295", "1/4294967297", "1/18446744073709551615", "1/18446744073709551617", "1/340282366920938463463374607431768211457",
		"", "-", "/", "1/", "/2", "-/2", "1//2", "1/2/", "1/2/4", "2/4", "-6/8", "4/2", "2/2", "0/1", "0/2", "-0", "-0/2", "3/1", "1/0", "1/-2", "-1/-2", "+1/2", "1/+2", "00", "01/2", "1/02", "1.5", "0.5", "1e3", "0x1", "1p-2", "3*2^1", " 1", "1 ", "1/2\n", "1/ 2", "\x00", "\xff", "½", "x",
	} {
		refuses(t, s)
	}
}

func refuses(t *testing.T, s string) {
	t.Helper()
	a, e := Parse(s)
	isSame(t, "Parse of "+s, e, api.ErrForm)
	isZero(t, "Parse of "+s, a)
}

// Each quotient of small numbers is taken just where it is in lowest terms, over a power of two.
func TestParseTakesOneTextEach(t *testing.T) { // P401
	for n := int64(-20); n <= 20; n++ {
		for d := int64(0); d <= 20; d++ {
			s := big.NewInt(n).String() + "/" + big.NewInt(d).String()
			if n%2 != 0 && d > 1 && d&(d-1) == 0 {
				isSame(t, s, parse(t, s).Text(), s)
			} else {
				refuses(t, s)
			}
		}
	}
}

func TestParseLong(t *testing.T) { // P401
	nines, two := strings.Repeat("9", api.MaxDigits), power(13280, 0).String() // 3998 digits
	for _, s := range []string{nines, "-" + nines, nines + "/2", "-1/" + two, nines + "/" + two} {
		want, _ := new(big.Rat).SetString(s)
		isDyad(t, "Parse", parse(t, s), want)
		isSame(t, "Text", parse(t, s).Text(), s)
	}
	for _, s := range []string{nines + "9", "-" + nines + "9", nines + "9/2", "1/" + nines, "1/" + power(13290, 0).String(), two + "/2"} { // the last but one has 4001 digits
		refuses(t, s)
	}
}

func TestTextOfMoreDigitsThanParseTakes(t *testing.T) { // P401
	far := New(whole.Of(-3), -4096)
	a := Mul(Mul(far, far), Mul(far, far))
	isSame(t, "Text", a.Text(), times(big.NewInt(81), -4*4096).RatString())
	refuses(t, a.Text())
}

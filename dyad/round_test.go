package dyad

import (
	"fmt"
	"math"
	"math/big"
	"testing"

	"cincture/rat"
)

// float is a rounded to so many binary digits, as the library does it.
func float(a *big.Rat, bits int, mode big.RoundingMode) *big.Rat {
	r, _ := new(big.Float).SetPrec(uint(bits)).SetMode(mode).SetRat(a).Rat(nil)
	return r
}

// holdRound holds both ways of rounding against the library, and that few enough digits are kept.
func holdRound(t *testing.T, a *big.Rat, bits int) {
	t.Helper()
	what := fmt.Sprintf("%.60v, %d", a, bits)
	x := ratFrom(t, a)
	down, up := Down(x, bits), Up(x, bits)
	isParts(t, "Down "+what, down, float(a, bits, big.ToNegativeInf))
	isParts(t, "Up "+what, up, float(a, bits, big.ToPositiveInf))
	for _, d := range []Dyad{down, up} {
		if m, _ := d.Parts(); m.Abs().Bits() > bits {
			t.Fatalf("%s: %d digits are kept", what, m.Abs().Bits())
		}
	}
	if _, ok := Of(x); !ok && Cmp(down, up) >= 0 {
		t.Fatalf("%s: Down is not below Up", what)
	}
}

func TestRoundByText(t *testing.T) { // P402
	for _, c := range []struct {
		a        string
		bits     int
		down, up string
	}{
		{"1/3", 2, "1/4", "3/8"}, {"1/3", 1, "1/4", "1/2"}, {"-1/3", 2, "-3/8", "-1/4"}, {"-1/3", 1, "-1/2", "-1/4"}, {"5", 2, "4", "6"}, {"-5", 2, "-6", "-4"}, {"7", 3, "7", "7"}, {"7", 2, "6", "8"}, {"-7", 2, "-8", "-6"}, {"15/4", 2, "3", "4"}, {"-15/4", 2, "-4", "-3"},
		{"100", 1, "64", "128"}, {"-100", 1, "-128", "-64"}, {"1/1000", 4, "1/1024", "9/8192"}, {"5/7", 8, "91/128", "183/256"}, {"1023/1024", 9, "511/512", "1"}, {"1023/1024", 10, "1023/1024", "1023/1024"}, {"1", 1, "1", "1"}, {"-64", 1, "-64", "-64"}, {"3", 1, "2", "4"}, {"2/3", 1, "1/2", "1"},
		{"0", 1, "0", "0"}, {"0", 5, "0", "0"}, {"18446744073709551617", 64, "18446744073709551616", "18446744073709551618"}, {"18446744073709551617", 65, "18446744073709551617", "18446744073709551617"},
	} {
		a, code := rat.Parse(c.a)
		isSame(t, c.a, int(code), 0)
		isSame(t, fmt.Sprintf("Down %s, %d", c.a, c.bits), Down(a, c.bits).Text(), c.down)
		isSame(t, fmt.Sprintf("Up %s, %d", c.a, c.bits), Up(a, c.bits).Text(), c.up)
	}
}

// By the promise's own words, without a library: all numbers of so few digits near by are tried.
func TestRoundIsTheNearest(t *testing.T) { // P402
	for bits := 1; bits <= 3; bits++ {
		for n := int64(-40); n <= 40; n++ {
			for d := int64(1); d <= 13; d++ {
				a := big.NewRat(n, d)
				var below, above *big.Rat
				for m := int64(1 - 1<<bits); m < 1<<bits; m++ {
					for e := -8; e <= 8; e++ {
						x := times(big.NewInt(m), e)
						if x.Cmp(a) <= 0 && (below == nil || x.Cmp(below) > 0) {
							below = x
						}
						if x.Cmp(a) >= 0 && (above == nil || x.Cmp(above) < 0) {
							above = x
						}
					}
				}
				isDyad(t, fmt.Sprintf("Down %v, %d", a, bits), Down(ratFrom(t, a), bits), below)
				isDyad(t, fmt.Sprintf("Up %v, %d", a, bits), Up(ratFrom(t, a), bits), above)
			}
		}
	}
}

func TestRound(t *testing.T) { // P402
	s := source(13)
	for range 4000 {
		a := new(big.Rat).SetFrac(s.number(s.below(5)), s.number(s.below(5)))
		for _, bits := range []int{1, 2, 3, 31, 32, 33, 64, 65, 1 + s.below(200)} {
			holdRound(t, a, bits)
		}
	}
	for _, a := range some() {
		for bits := 1; bits <= 70; bits++ {
			holdRound(t, a, bits)
		}
	}
}

// Powers of two and their neighbours, above 1 and below: there a digit more or less is at stake.
func TestRoundAtPowers(t *testing.T) { // P402
	for n := uint(1); n <= 70; n++ {
		for more := int64(-1); more <= 1; more++ {
			for _, sign := range []int64{1, -1} {
				p := power(n, more)
				p.Mul(p, big.NewInt(sign))
				for _, bits := range []int{1, 2, int(n) - 1, int(n), int(n) + 1} {
					holdRound(t, new(big.Rat).SetInt(p), max(bits, 1))
					holdRound(t, new(big.Rat).SetFrac(big.NewInt(1), p), max(bits, 1))
					holdRound(t, new(big.Rat).SetFrac(p, big.NewInt(3)), max(bits, 1))
					holdRound(t, new(big.Rat).SetFrac(p, power(n, 0)), max(bits, 1))
				}
			}
		}
	}
}

func TestRoundCutsBits(t *testing.T) { // P402
	for _, a := range []*big.Rat{big.NewRat(1, 3), big.NewRat(-1, 3), big.NewRat(22, 7), big.NewRat(-100, 1), new(big.Rat).SetFrac(power(5000, 1), big.NewInt(7)), new(big.Rat).SetInt(power(4096, 1)), times(power(4096, 1), -9000)} {
		x := ratFrom(t, a)
		for _, bits := range []int{0, -1, -9, -4096, math.MinInt} {
			isDyad(t, "Down", Down(x, bits), float(a, 1, big.ToNegativeInf))
			isDyad(t, "Up", Up(x, bits), float(a, 1, big.ToPositiveInf))
		}
		for _, bits := range []int{4096, 4097, 5000, 9999, 1 << 32, math.MaxInt} {
			isDyad(t, "Down", Down(x, bits), float(a, 4096, big.ToNegativeInf))
			isDyad(t, "Up", Up(x, bits), float(a, 4096, big.ToPositiveInf))
		}
		holdRound(t, a, 4095)
	}
}

// The exponent is whichever whole number: not the one that New cuts.
func TestRoundFar(t *testing.T) { // P402
	third := big.NewRat(-1, 3)
	for _, e := range []int{4096, 4097, 10000, -4096, -4097, -10000, 1<<20 - 1, 3 - 1<<20} {
		a := new(big.Rat).Mul(third, times(big.NewInt(1), e))
		for _, bits := range []int{1, 2, 64, 4096} {
			holdRound(t, a, bits)
		}
	}
	s := source(17)
	n, d := s.number(1<<15-2), s.number(1<<15-2)
	holdRound(t, new(big.Rat).SetInt(n), 4096)
	holdRound(t, new(big.Rat).SetFrac(big.NewInt(1), d), 4096)
	holdRound(t, new(big.Rat).SetFrac(big.NewInt(1), power(1<<20, -1)), 4096)
	isParts(t, "Up", Up(ratFrom(t, new(big.Rat).SetInt(power(1<<20, -1))), 4096), times(big.NewInt(1), 1<<20))
}

func TestRoundKeepsWhatFits(t *testing.T) { // P402
	for _, m := range wholes() {
		for _, e := range []int{0, 5, -5, 4096, -4096} {
			d := New(wholeFrom(t, m), e)
			bits := max(m.BitLen(), 1)
			isSame(t, "Down", Cmp(Down(d.Rat(), bits), d), 0)
			isSame(t, "Up", Cmp(Up(d.Rat(), bits), d), 0)
		}
	}
}

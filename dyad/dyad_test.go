package dyad

import (
	"fmt"
	"math"
	"math/big"
	"testing"

	"cincture/rat"
	"cincture/whole"
)

func TestZero(t *testing.T) { // P401
	var zero Dyad
	of, ok := Of(rat.Rat{})
	isSame(t, "Of 0", ok, true)
	half := parse(t, "1/2")
	for _, a := range []Dyad{zero, of, New(whole.Int{}, 9), New(whole.Of(0), -9), parse(t, "0"), Add(zero, zero), Sub(half, half), Mul(zero, half), Mul(half, zero), Mid(half, Sub(zero, half)), Mid(zero, zero), Down(rat.Rat{}, 3), Up(rat.Rat{}, 3)} {
		isZero(t, "0", a)
		isDyad(t, "0", a, new(big.Rat))
		isSame(t, "Text", a.Text(), "0")
		m, e := a.Parts()
		isSame(t, "Parts", m.Text(), "0")
		isSame(t, "Parts", e, 0)
		isSame(t, "Cmp", Cmp(a, zero), 0)
		isSame(t, "Cmp", Cmp(a, New(whole.Of(1), -4096)), -1)
		isSame(t, "Cmp", Cmp(a, New(whole.Of(-1), -4096)), 1)
	}
}

func TestNew(t *testing.T) { // P401
	for _, m := range wholes() {
		for _, e := range []int{0, 1, -1, 2, -2, 31, -31, 32, -32, 33, -33, 64, -64, 100, -100, 4095, -4095, 4096, -4096} {
			isDyad(t, fmt.Sprintf("New %v, %d", m, e), New(wholeFrom(t, m), e), times(m, e))
		}
	}
}

func TestNewCuts(t *testing.T) { // P401
	for _, m := range wholes() {
		for _, e := range []int{4097, 5000, 8192, 1 << 20, 1 << 32, math.MaxInt} {
			isDyad(t, fmt.Sprintf("New %v, %d", m, e), New(wholeFrom(t, m), e), times(m, 4096))
			isDyad(t, fmt.Sprintf("New %v, %d", m, -e), New(wholeFrom(t, m), -e), times(m, -4096))
		}
		isDyad(t, "New of the least", New(wholeFrom(t, m), math.MinInt), times(m, -4096))
	}
}

func TestParts(t *testing.T) { // P401
	for _, c := range []struct {
		m   int64
		e   int
		odd string
		exp int
	}{
		{12, -3, "3", -1}, {-12, 3, "-3", 5}, {0, 9, "0", 0}, {0, -9999, "0", 0}, {1, 0, "1", 0}, {-1, 0, "-1", 0}, {5, -1, "5", -1}, {8, -3, "1", 0}, {8, -2, "1", 1}, {8, -4, "1", -1},
		{1, 9999, "1", 4096}, {2, 9999, "1", 4097}, {1, -9999, "1", -4096}, {2, -9999, "1", -4095}, {math.MinInt64, -63, "-1", 0}, {math.MinInt64, 4096, "-1", 4159}, {math.MaxInt64, -4096, "9223372036854775807", -4096},
	} {
		m, e := New(whole.Of(c.m), c.e).Parts()
		isSame(t, fmt.Sprintf("Parts of %d, %d", c.m, c.e), m.Text(), c.odd)
		isSame(t, fmt.Sprintf("Parts of %d, %d", c.m, c.e), e, c.exp)
	}
}

func TestOf(t *testing.T) { // P401
	for _, a := range some() {
		isDyad(t, fmt.Sprintf("Of %v", a), from(t, a), a)
	}
	// As far as an exponent comes: it is New's that is cut, not this one.
	for _, e := range []int{4096, 4097, -4096, -4097, 1<<20 - 1, 1 - 1<<20} {
		isDyad(t, fmt.Sprintf("Of 2 to the %d", e), from(t, times(big.NewInt(-1), e)), times(big.NewInt(-1), e))
	}
}

func TestOfRefuses(t *testing.T) { // P401
	for _, d := range []*big.Int{big.NewInt(3), big.NewInt(5), big.NewInt(6), big.NewInt(7), big.NewInt(10), big.NewInt(12), big.NewInt(96), power(32, -1), power(32, 1), power(32, 2), power(64, -1), power(64, 1), power(96, 1<<40), power(4096, 1), power(4096, 1<<60)} {
		for _, n := range []int64{1, -1, 11, -1 << 62} {
			a := new(big.Rat).SetFrac(big.NewInt(n), d)
			got, ok := Of(ratFrom(t, a))
			isSame(t, fmt.Sprintf("Of %.40v", a), ok, false)
			isZero(t, fmt.Sprintf("Of %.40v", a), got)
		}
	}
}

func TestRat(t *testing.T) { // P401
	for _, a := range some() {
		isSame(t, "Rat", from(t, a).Rat().Text(), a.RatString())
		back, ok := Of(from(t, a).Rat())
		isSame(t, "Of Rat", ok, true)
		isDyad(t, "Of Rat", back, a)
	}
}

// Numbers of as many binary digits as the promises speak of.
func TestLong(t *testing.T) { // P401 P402
	const most = 1 << 20
	s := source(1)
	long := s.number(most/32 - 1)
	for _, a := range []*big.Rat{times(big.NewInt(3), most-2), times(big.NewInt(-3), 1-most), times(power(most-1, 0), -4096), times(long, 0), times(s.number(1000), 1-most)} {
		isDyad(t, "long", from(t, a), a)
	}
	isParts(t, "New", New(wholeFrom(t, power(most-1, 0)), 4096), times(power(0, 0), most+4095))
	isParts(t, "New", New(wholeFrom(t, power(most-1, 0)), -4096), times(power(0, 0), most-4097))
	up, down := from(t, times(big.NewInt(3), most-2)), from(t, times(big.NewInt(-3), 1-most))
	isParts(t, "Add", Add(up, down), new(big.Rat).Add(times(big.NewInt(3), most-2), times(big.NewInt(-3), 1-most)))
	isParts(t, "Mul", Mul(up, down), times(big.NewInt(-9), -1))
	isSame(t, "Cmp", Cmp(up, down), 1)
	isSame(t, "Cmp", Cmp(down, Dyad{}), -1)
	a := from(t, times(long, 0))
	isParts(t, "Mid", Mid(a, parse(t, "1/2")), times(new(big.Int).Add(new(big.Int).Lsh(long, 1), big.NewInt(1)), -2))
}

// Exponents that no number of the promises has: calls end, and what needs no digits written out is exact.
func TestFarBeyond(t *testing.T) { // P402
	a, b := New(whole.Of(1), 4096), New(whole.Of(1), -4096)
	for range 40 {
		a, b = Mul(a, a), Mul(b, b)
		isSame(t, "Cmp", Cmp(a, b), 1)
		isSame(t, "Cmp", Cmp(b, Dyad{}), 1)
	}
	_, up := a.Parts()
	_, down := b.Parts()
	isSame(t, "Parts", up, 1<<52)
	isSame(t, "Parts", down, -1<<52)
	isDyad(t, "Mul", Mul(a, b), big.NewRat(1, 1))
	isParts(t, "New", New(wholeFrom(t, power(3<<20, 0)), 5), times(big.NewInt(1), 3<<20+5))
	for _, x := range []Dyad{a, b, {whole.Of(1), math.MaxInt}, {whole.Of(1), math.MinInt}} {
		for _, y := range []Dyad{a, b, {whole.Of(-1), math.MaxInt}, {whole.Of(-1), math.MinInt}} {
			Add(x, y)
			Mul(x, y)
			Cmp(x, y)
		}
		x.Rat()
	}
}

// No answer lies where something lies that was handed in, nor where another answer does.
func TestAnswersAreNew(t *testing.T) { // P401 P402
	n := wholeFrom(t, power(100, 3))
	r := ratFrom(t, times(power(100, 3), -90))
	a, _ := Of(r)
	zero, one := Dyad{}, New(whole.Of(1), 0)
	m, _ := a.Parts()
	again, _ := a.Parts()
	asRat := a.Rat()
	seen := map[uintptr]string{place(n): "what was handed in"}
	for what, x := range map[string]whole.Int{"Of": a.odd, "New": New(n, 0).odd, "New by 2": New(n, 1).odd, "Parts": m, "Parts again": again, "Num": asRat.Num(), "Den": asRat.Den(), "Add 0": Add(a, zero).odd, "Add to 0": Add(zero, a).odd, "Sub 0": Sub(a, zero).odd, "Sub from 0": Sub(zero, a).odd,
		"Mul 1": Mul(a, one).odd, "Mul of 1": Mul(one, a).odd, "Mid": Mid(a, a).odd, "Mid 0": Mid(a, zero).odd, "Down": Down(r, 4096).odd, "Up": Up(r, 4096).odd} {
		if other, ok := seen[place(x)]; ok {
			t.Errorf("%s lies where %s lies", what, other)
		}
		seen[place(x)] = what
	}
	isDyad(t, "a behind", a, times(power(100, 3), -90))
	isSame(t, "n behind", n.Text(), power(100, 3).String())
}

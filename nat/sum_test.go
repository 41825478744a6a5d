package nat

import (
	"fmt"
	"math/big"
	"testing"
)

func TestPairs(t *testing.T) { // P102
	list := some()
	for _, a := range list {
		for _, b := range list {
			holdPair(t, a, b)
		}
	}
}

// holdPair holds all that two numbers come to against what the library tells.
func holdPair(t *testing.T, a, b *big.Int) {
	t.Helper()
	x, y := from(t, a), from(t, b)
	what := fmt.Sprintf("%x, %x", a, b)
	isSame(t, "Cmp "+what, Cmp(x, y), a.Cmp(b))
	isNat(t, "Add "+what, Add(x, y), new(big.Int).Add(a, b))
	isNat(t, "Mul "+what, Mul(x, y), new(big.Int).Mul(a, b))
	isNat(t, "Gcd "+what, Gcd(x, y), new(big.Int).GCD(nil, nil, a, b))
	left, ok := Sub(x, y)
	want := new(big.Int)
	if a.Cmp(b) >= 0 {
		want.Sub(a, b)
	}
	isSame(t, "Sub "+what, ok, a.Cmp(b) >= 0)
	isNat(t, "Sub "+what, left, want)
	holdDiv(t, a, b)
	isNat(t, "a behind "+what, x, a)
	isNat(t, "b behind "+what, y, b)
}

func holdDiv(t *testing.T, a, b *big.Int) {
	t.Helper()
	what := fmt.Sprintf("Div %x, %x", a, b)
	q, r, ok := Div(from(t, a), from(t, b))
	wantQ, wantR := new(big.Int), new(big.Int)
	if b.Sign() != 0 {
		wantQ.QuoRem(a, b, wantR)
	}
	isSame(t, what, ok, b.Sign() != 0)
	isNat(t, what, q, wantQ)
	isNat(t, what, r, wantR)
}

func TestCmpTellsOrder(t *testing.T) { // P102
	list := []string{"0", "1", "2", "4294967295", "4294967296", "4294967297", "18446744073709551615", "18446744073709551616", "79228162514264337593543950336", "79228162514264337593543950337"}
	for i, a := range list {
		for k, b := range list {
			want := 0
			if i < k {
				want = -1
			} else if i > k {
				want = 1
			}
			isSame(t, a+", "+b, Cmp(parse(t, a), parse(t, b)), want)
		}
	}
}

func TestSubOfAGreaterOne(t *testing.T) { // P102
	for _, p := range [][2]string{{"0", "1"}, {"3", "5"}, {"18446744073709551615", "18446744073709551616"}, {"0", "340282366920938463463374607431768211456"}} {
		d, ok := Sub(parse(t, p[0]), parse(t, p[1]))
		isSame(t, "Sub", ok, false)
		isNat(t, "Sub", d, new(big.Int))
	}
}

func TestDivByZero(t *testing.T) { // P102
	for _, a := range some() {
		for _, zero := range []Nat{{}, Of(0)} {
			q, r, ok := Div(from(t, a), zero)
			isSame(t, "Div", ok, false)
			isNat(t, "Div", q, new(big.Int))
			isNat(t, "Div", r, new(big.Int))
		}
	}
}

// Quotients whose limbs are all ones or all noughts, and what is left at its least and its greatest.
func TestDivOfProducts(t *testing.T) { // P102
	list := some()
	for _, b := range list {
		if b.Sign() == 0 {
			continue
		}
		for _, q := range list {
			a := new(big.Int).Mul(b, q)
			holdDiv(t, a, b)
			holdDiv(t, a.Add(a, new(big.Int).Sub(b, big.NewInt(1))), b)
		}
	}
}

// The first guess of a limb is too great, once or twice, or would not fit a limb.
func TestDivGuesses(t *testing.T) { // P102
	limbs := func(l ...uint32) *big.Int {
		a := new(big.Int)
		for _, x := range l {
			a.Or(a.Lsh(a, 32), big.NewInt(int64(x)))
		}
		return a
	}
	holdDiv(t, limbs(0x80000000, 0, 3), limbs(0x20000000, 0, 1))
	holdDiv(t, limbs(0x8000, 0, 3), limbs(0x2000, 0, 1))
	holdDiv(t, limbs(0x7fff, 0x8000, 0, 0), limbs(0x8000, 0, 1))
	holdDiv(t, limbs(0x8000, 0, 0xfffe, 0), limbs(0x8000, 0xffff))
	holdDiv(t, limbs(0x80000000, 0, 0xfffffffe, 0), limbs(0x80000000, 0xffffffff))
	holdDiv(t, limbs(0x80000000, 0xffffffff, 0, 0), limbs(0x80000000, 0xffffffff, 1))
	holdDiv(t, limbs(0xfffffffe, 0xffffffff, 0xffffffff, 0), limbs(0xffffffff, 0, 1))
	values := []uint32{0, 1, 2, 0x7fffffff, 0x80000000, 0x80000001, 0xfffffffe, 0xffffffff}
	s := source(11)
	for range 20000 {
		pick := func() uint32 { return values[s.below(len(values))] }
		b := limbs(pick(), pick(), pick())
		holdDiv(t, limbs(pick(), pick(), pick(), pick(), pick()), b)
	}
}

func TestGcdEdges(t *testing.T) { // P102
	for _, c := range [][3]string{{"0", "0", "0"}, {"0", "5", "5"}, {"5", "0", "5"}, {"1", "0", "1"}, {"12", "18", "6"}, {"17", "4", "1"}, {"18446744073709551616", "6", "2"},
		{"13367494538843734067838845976576", "1000000000000000000000000000000", "1073741824"},
		{"0", "340282366920938463463374607431768211456", "340282366920938463463374607431768211456"},
		{"340282366920938463463374607431768211456", "0", "340282366920938463463374607431768211456"}} {
		isSame(t, "Gcd", Gcd(parse(t, c[0]), parse(t, c[1])).Text(), c[2])
	}
}

// Numbers with a great common factor, unlike in length, and neighbours of Fibonacci, of which Euclid takes most steps.
func TestGcdLong(t *testing.T) { // P102
	hold := func(a, b *big.Int) {
		t.Helper()
		want := new(big.Int).GCD(nil, nil, a, b)
		isNat(t, "Gcd", Gcd(from(t, a), from(t, b)), want)
		isNat(t, "Gcd", Gcd(from(t, b), from(t, a)), want)
	}
	s := source(5)
	for range 3000 {
		g := s.number(s.below(12))
		a := new(big.Int).Mul(g, s.number(s.below(40)))
		b := new(big.Int).Mul(g, s.number(s.below(40)))
		hold(a, b)
		hold(a, g)
		hold(a, new(big.Int).Add(a, g))
		hold(a, new(big.Int).Add(a, big.NewInt(1)))
	}
	f, g := big.NewInt(1), big.NewInt(1)
	for range 1500 {
		f, g = g, new(big.Int).Add(f, g)
		hold(f, g)
		hold(new(big.Int).Mul(f, f), new(big.Int).Mul(f, g))
	}
}

func TestLong(t *testing.T) { // P101, P102: numbers of 2 to the 20th binary digits
	s := source(9)
	a, b := s.number(1<<15), s.number(1<<14)
	a.SetBit(a, 1<<20-1, 1)
	b.SetBit(b, 1<<19-1, 1)
	holdDiv(t, a, b)
	isNat(t, "Mul", Mul(from(t, b), from(t, b)), new(big.Int).Mul(b, b))
	isNat(t, "Gcd", Gcd(from(t, a), from(t, b)), new(big.Int).GCD(nil, nil, a, b))
	isSame(t, "Text", from(t, b).Text() == b.String(), true)
}

// No answer shares memory with what was handed in, nor two answers with one another: writing into one changes no other.
func TestAnswersAreNew(t *testing.T) { // P101, P102
	for _, v := range []string{"5", "18446744073709551615", "340282366920938463463374607431768211457"} {
		a, zero, one := parse(t, v), Nat{}, Of(1)
		q, none, _ := Div(a, one)
		none2, r, _ := Div(a, Shl(a, 1))
		less, _ := Sub(a, zero)
		list := []Nat{Add(a, zero), Add(zero, a), less, Mul(a, one), Mul(one, a), q, r, Gcd(a, zero), Gcd(zero, a), Gcd(a, a), Shl(a, 0), Shl(a, -1), Shr(a, 0), Shr(a, -1)}
		isSame(t, "0", none.Text()+none2.Text(), "00")
		for i, n := range list {
			isSame(t, "answer", n.Text(), v)
			for k := range n.limbs {
				n.limbs[k] = ^uint32(0)
			}
			isSame(t, fmt.Sprint("a behind answer ", i), a.Text(), v)
		}
	}
}

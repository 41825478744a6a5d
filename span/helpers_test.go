package span

import (
	"math/big"
	"reflect"
	"testing"

	"cincture/api"
	"cincture/nat"
	"cincture/rat"
	"cincture/whole"
)

// source makes the same numbers at each run.
type source uint64

func (s *source) word() uint32 {
	*s = *s*6364136223846793005 + 1442695040888963407
	return uint32(*s >> 33)
}

func (s *source) below(n int) int { return int(s.word() % uint32(n)) }

// number is one of some words of 32 bits, above 0 or below, never 0.
func (s *source) number(words int) *big.Int {
	a := big.NewInt(1)
	for range words {
		a.Or(a.Lsh(a, 32), big.NewInt(int64(s.word())<<1|int64(s.word()&1)))
	}
	if s.word()&1 == 1 {
		a.Neg(a)
	}
	return a
}

// power is 2 to the n, and more.
func power(n uint, more int64) *big.Int {
	p := new(big.Int).Lsh(big.NewInt(1), n)
	return p.Add(p, big.NewInt(more))
}

// ends is two numbers as the library has them, the first not above the second.
type ends struct{ lo, hi *big.Rat }

func (a ends) String() string { return a.lo.RatString() + " to " + a.hi.RatString() }

// between is from the one to the other, whichever is the lesser.
func between(a, b *big.Rat) ends { return ends{least(a, b), most(a, b)} }

func least(l ...*big.Rat) *big.Rat {
	out := l[0]
	for _, x := range l {
		if x.Cmp(out) < 0 {
			out = x
		}
	}
	return out
}

func most(l ...*big.Rat) *big.Rat {
	out := l[0]
	for _, x := range l {
		if x.Cmp(out) > 0 {
			out = x
		}
	}
	return out
}

// numbers is 0, and numbers on either side of it: near and far, whole and not, some only just unlike, some long.
func numbers() []*big.Rat {
	list := []*big.Rat{new(big.Rat)}
	both := func(a *big.Rat) { list = append(list, a, new(big.Rat).Neg(a)) }
	both(big.NewRat(1, 1))
	both(big.NewRat(1, 3))
	both(big.NewRat(5, 2))
	both(big.NewRat(7, 1))
	both(new(big.Rat).SetFrac(power(64, 1), power(64, 0)))
	s := source(5)
	list = append(list, new(big.Rat).SetFrac(s.number(3), s.number(2)), new(big.Rat).SetFrac(s.number(2), s.number(4)))
	return list
}

// some is all that lies between two of the numbers: on either side of 0, at 0, about 0, and single numbers.
func some() []ends {
	list := numbers()
	var out []ends
	for i, a := range list {
		for _, b := range list[i:] {
			out = append(out, between(a, b))
		}
	}
	return out
}

func wholeFrom(t *testing.T, a *big.Int) whole.Int {
	t.Helper()
	n, e := nat.Read(string(a.Bytes()))
	if e != api.OK {
		t.Fatalf("nat.Read of %v: %v", a, e)
	}
	return whole.From(a.Sign() < 0, n)
}

func ratFrom(t *testing.T, a *big.Rat) rat.Rat {
	t.Helper()
	r, ok := rat.New(wholeFrom(t, a.Num()), wholeFrom(t, a.Denom()))
	if !ok {
		t.Fatalf("rat.New of %v: none", a)
	}
	return r
}

func from(t *testing.T, a ends) Span {
	t.Helper()
	s, ok := New(ratFrom(t, a.lo), ratFrom(t, a.hi))
	if !ok {
		t.Fatalf("New of %v: none", a)
	}
	return s
}

func number(t *testing.T, s string) rat.Rat {
	t.Helper()
	a, e := rat.Parse(s)
	if e != api.OK {
		t.Fatalf("rat.Parse of %.40q: %v", s, e)
	}
	return a
}

// parse is the Span between two texts.
func parse(t *testing.T, lo, hi string) Span {
	t.Helper()
	a, e := Parse(api.Pair{Lo: lo, Hi: hi})
	if e != api.OK {
		t.Fatalf("Parse of %.40q, %.40q: %v", lo, hi, e)
	}
	return a
}

// text is both ends, with a blank between.
func text(a Span) string {
	p := Plain(a)
	return p.Lo + " " + p.Hi
}

func isWhole(t *testing.T, what string, got whole.Int, want *big.Int) {
	t.Helper()
	if got.Sign() != want.Sign() || got.Abs().Bytes() != string(want.Bytes()) {
		t.Fatalf("%s: sign %d, bytes %.60x, not %d, %.60x", what, got.Sign(), got.Abs().Bytes(), want.Sign(), want.Bytes())
	}
}

func isRat(t *testing.T, what string, got rat.Rat, want *big.Rat) {
	t.Helper()
	isWhole(t, what+": Num", got.Num(), want.Num())
	isWhole(t, what+": Den", got.Den(), want.Denom())
}

func isSpan(t *testing.T, what string, got Span, want ends) {
	t.Helper()
	isRat(t, what+": Lo", got.Lo, want.lo)
	isRat(t, what+": Hi", got.Hi, want.hi)
}

// isZero holds a Span against the zero value, bit by bit.
func isZero(t *testing.T, what string, got Span) {
	t.Helper()
	if !reflect.DeepEqual(got, Span{}) {
		t.Fatalf("%s: %v", what, got)
	}
}

func isSame[T comparable](t *testing.T, what string, got, want T) {
	t.Helper()
	if got != want {
		t.Errorf("%s: %v, not %v", what, got, want)
	}
}

// places is where the limbs of a number's two parts lie; none of a part that has none.
func places(a rat.Rat) []uintptr {
	var out []uintptr
	for _, part := range []string{"num", "den"} {
		if p := reflect.ValueOf(a).FieldByName(part).FieldByName("abs").Field(0).Pointer(); p != 0 {
			out = append(out, p)
		}
	}
	return out
}

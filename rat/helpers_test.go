package rat

import (
	"math/big"
	"reflect"
	"testing"

	"cincture/api"
	"cincture/nat"
	"cincture/whole"
)

// source makes the same numbers at each run.
type source uint64

func (s *source) word() uint32 {
	*s = *s*6364136223846793005 + 1442695040888963407
	return uint32(*s >> 33)
}

// number is one of some words of 32 bits, above 0 or below, never 0.
func (s *source) number(words int) *big.Int {
	a := big.NewInt(1)
	for range words {
		a.Or(a.Lsh(a, 32), big.NewInt(int64(s.word())<<1|int64(s.word()&1)))
	}
	if s.word()&1 == 1 {
		a.Neg(a)
	}
	return a
}

// power is 2 to the n, and more.
func power(n uint, more int64) *big.Int {
	p := new(big.Int).Lsh(big.NewInt(1), n)
	return p.Add(p, big.NewInt(more))
}

// wholes is 0, small numbers, those about the places where words end, each with both signs, and long ones.
func wholes() []*big.Int {
	list := []*big.Int{new(big.Int)}
	both := func(a *big.Int) { list = append(list, a, new(big.Int).Neg(a)) }
	for _, v := range []int64{1, 2, 3, 4, 6, 7, 12, 30, 1000000000} {
		both(big.NewInt(v))
	}
	for _, n := range []uint{31, 32, 63, 64, 65, 128} {
		for more := int64(-1); more <= 1; more++ {
			both(power(n, more))
		}
	}
	s := source(7)
	for words := 1; words <= 8; words++ {
		list = append(list, s.number(words), s.number(words))
	}
	return list
}

// some is quotients: whole ones, those with a denominator in common, and long ones that have much in common.
func some() []*big.Rat {
	var list []*big.Rat
	for _, d := range []int64{1, 2, 3, 4, 6, 12} {
		for n := int64(-7); n <= 7; n++ {
			list = append(list, big.NewRat(n, d))
		}
	}
	ends := []*big.Int{power(32, 0), power(63, 0), power(64, -1), power(64, 0), power(65, 1), power(128, 0)}
	for i, n := range ends {
		d := ends[(i+1)%len(ends)]
		list = append(list, new(big.Rat).SetInt(n), new(big.Rat).SetFrac(big.NewInt(-3), n), new(big.Rat).SetFrac(n, d), new(big.Rat).SetFrac(new(big.Int).Neg(d), n))
	}
	s := source(11)
	common := s.number(3)
	for words := 1; words <= 6; words++ {
		n, d := s.number(words), s.number(7-words)
		list = append(list, new(big.Rat).SetFrac(n, d), new(big.Rat).SetFrac(n, common), new(big.Rat).SetFrac(common, d), new(big.Rat).SetFrac(n, new(big.Int).Mul(d, common)))
	}
	return list
}

func wholeFrom(t *testing.T, a *big.Int) whole.Int {
	t.Helper()
	n, e := nat.Read(string(a.Bytes()))
	if e != api.OK {
		t.Fatalf("nat.Read of %v: %v", a, e)
	}
	return whole.From(a.Sign() < 0, n)
}

func from(t *testing.T, a *big.Rat) Rat {
	t.Helper()
	r, ok := New(wholeFrom(t, a.Num()), wholeFrom(t, a.Denom()))
	if !ok {
		t.Fatalf("New of %v: none", a)
	}
	return r
}

func parse(t *testing.T, s string) Rat {
	t.Helper()
	a, e := Parse(s)
	if e != api.OK {
		t.Fatalf("Parse of %.40q: %v", s, e)
	}
	return a
}

func isWhole(t *testing.T, what string, got whole.Int, want *big.Int) {
	t.Helper()
	if got.Sign() != want.Sign() || got.Abs().Bytes() != string(want.Bytes()) {
		t.Fatalf("%s: sign %d, bytes %x, not %d, %x", what, got.Sign(), got.Abs().Bytes(), want.Sign(), want.Bytes())
	}
}

// isRat holds a number against what is wanted, by all that it tells of itself, its one form too.
func isRat(t *testing.T, what string, got Rat, want *big.Rat) {
	t.Helper()
	isWhole(t, what+": Num", got.Num(), want.Num())
	isWhole(t, what+": Den", got.Den(), want.Denom())
	if got.Sign() != want.Sign() {
		t.Fatalf("%s: sign %d of %v", what, got.Sign(), want)
	}
	if (got.den.Sign() == 0) != want.IsInt() || isOne(got.den) {
		t.Fatalf("%s: kept with denominator %s of %v", what, got.den.Text(), want)
	}
}

func isSame[T comparable](t *testing.T, what string, got, want T) {
	t.Helper()
	if got != want {
		t.Errorf("%s: %v, not %v", what, got, want)
	}
}

// place is where a number's limbs lie, 0 of one that has none.
func place(a whole.Int) uintptr {
	return reflect.ValueOf(a).FieldByName("abs").Field(0).Pointer()
}

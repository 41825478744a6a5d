package whole

import (
	"math/big"
	"reflect"
	"testing"

	"cincture/api"
	"cincture/nat"
)

// source makes the same numbers at each run.
type source uint64

func (s *source) word() uint32 {
	*s = *s*6364136223846793005 + 1442695040888963407
	return uint32(*s >> 33)
}

// number is one of some words of 32 bits, above 0 or below.
func (s *source) number(words int) *big.Int {
	a := new(big.Int)
	for range words {
		a.Or(a.Lsh(a, 32), big.NewInt(int64(s.word())<<1|int64(s.word()&1)))
	}
	if s.word()&1 == 1 {
		a.Neg(a)
	}
	return a
}

// power is 2 to the n, and more.
func power(n uint, more int64) *big.Int {
	p := new(big.Int).Lsh(big.NewInt(1), n)
	return p.Add(p, big.NewInt(more))
}

// some is 0, small numbers, those about the places where words end, each with both signs, and long ones.
func some() []*big.Int {
	list := []*big.Int{new(big.Int)}
	both := func(a *big.Int) { list = append(list, a, new(big.Int).Neg(a)) }
	for _, v := range []int64{1, 2, 3, 5, 7, 10, 999999999, 1000000000} {
		both(big.NewInt(v))
	}
	for _, n := range []uint{8, 31, 32, 33, 62, 63, 64, 65, 96, 128} {
		for more := int64(-1); more <= 1; more++ {
			both(power(n, more))
		}
	}
	s := source(5)
	for words := 1; words <= 12; words++ {
		list = append(list, s.number(words), s.number(words))
	}
	return list
}

func natFrom(t *testing.T, a *big.Int) nat.Nat {
	t.Helper()
	n, e := nat.Read(string(a.Bytes()))
	if e != api.OK {
		t.Fatalf("nat.Read of %v: %v", a, e)
	}
	return n
}

func from(t *testing.T, a *big.Int) Int {
	t.Helper()
	return From(a.Sign() < 0, natFrom(t, a))
}

func parse(t *testing.T, s string) Int {
	t.Helper()
	a, e := Parse(s)
	if e != api.OK {
		t.Fatalf("Parse of %q: %v", s, e)
	}
	return a
}

// isInt holds a number against what is wanted, by all that it tells of itself, its one form too.
func isInt(t *testing.T, what string, got Int, want *big.Int) {
	t.Helper()
	if got.Sign() != want.Sign() || got.Abs().Bytes() != string(want.Bytes()) {
		t.Fatalf("%s: sign %d, bytes %x, not %d, %x", what, got.Sign(), got.Abs().Bytes(), want.Sign(), want.Bytes())
	}
	if got.below != (want.Sign() < 0) {
		t.Fatalf("%s: below is %v of %v", what, got.below, want)
	}
}

func isSame[T comparable](t *testing.T, what string, got, want T) {
	t.Helper()
	if got != want {
		t.Errorf("%s: %v, not %v", what, got, want)
	}
}

// place is where a number's limbs lie, 0 of one that has none.
func place(n nat.Nat) uintptr {
	return reflect.ValueOf(n).Field(0).Pointer()
}

package dyad

import (
	"math/big"
	"reflect"
	"testing"

	"cincture/api"
	"cincture/nat"
	"cincture/rat"
	"cincture/whole"
)

// source makes the same numbers at each run.
type source uint64

func (s *source) word() uint32 {
	*s = *s*6364136223846793005 + 1442695040888963407
	return uint32(*s >> 33)
}

func (s *source) below(n int) int { return int(s.word() % uint32(n)) }

// number is one of some words of 32 bits, above 0 or below, never 0; many words are all noughts or all ones.
func (s *source) number(words int) *big.Int {
	a := big.NewInt(1)
	for range words {
		a.Lsh(a, 32)
		switch s.below(4) {
		case 0:
		case 1:
			a.Or(a, big.NewInt(1<<32-1))
		default:
			a.Or(a, big.NewInt(int64(s.word())<<1|int64(s.word()&1)))
		}
	}
	if s.word()&1 == 1 {
		a.Neg(a)
	}
	return a
}

// power is 2 to the n, and more.
func power(n uint, more int64) *big.Int {
	p := new(big.Int).Lsh(big.NewInt(1), n)
	return p.Add(p, big.NewInt(more))
}

// times is m times 2 to the e, as the library has it.
func times(m *big.Int, e int) *big.Rat {
	if e < 0 {
		return new(big.Rat).SetFrac(m, power(uint(-e), 0))
	}
	return new(big.Rat).SetInt(new(big.Int).Lsh(m, uint(e)))
}

// wholes is 0, small numbers, those about the places where words end, each with both signs, and long ones.
func wholes() []*big.Int {
	list := []*big.Int{new(big.Int)}
	both := func(a *big.Int) { list = append(list, a, new(big.Int).Neg(a)) }
	for _, v := range []int64{1, 2, 3, 4, 5, 6, 7, 12, 96} {
		both(big.NewInt(v))
	}
	for _, n := range []uint{31, 32, 63, 64, 65, 96, 128} {
		for more := int64(-1); more <= 1; more++ {
			both(power(n, more))
		}
	}
	s := source(3)
	for words := 1; words <= 6; words++ {
		list = append(list, s.number(words), new(big.Int).Lsh(s.number(words), uint(s.below(100))))
	}
	return list
}

// some is numbers whose denominator is a power of two.
func some() []*big.Rat {
	var list []*big.Rat
	for n := int64(-9); n <= 9; n++ {
		for _, e := range []int{-4, -1, 0, 3} {
			list = append(list, times(big.NewInt(n), e))
		}
	}
	for i, m := range wholes() {
		list = append(list, times(m, []int{0, -1, 1, -31, -32, -33, 40, -64, 64, -65, 100, -200}[i%12]))
	}
	return list
}

func wholeFrom(t *testing.T, a *big.Int) whole.Int {
	t.Helper()
	n, e := nat.Read(string(a.Bytes()))
	if e != api.OK {
		t.Fatalf("nat.Read of %v: %v", a, e)
	}
	return whole.From(a.Sign() < 0, n)
}

func ratFrom(t *testing.T, a *big.Rat) rat.Rat {
	t.Helper()
	r, ok := rat.New(wholeFrom(t, a.Num()), wholeFrom(t, a.Denom()))
	if !ok {
		t.Fatalf("rat.New of %v: none", a)
	}
	return r
}

func from(t *testing.T, a *big.Rat) Dyad {
	t.Helper()
	d, ok := Of(ratFrom(t, a))
	if !ok {
		t.Fatalf("Of %v: none", a)
	}
	return d
}

func parse(t *testing.T, s string) Dyad {
	t.Helper()
	a, e := Parse(s)
	if e != api.OK {
		t.Fatalf("Parse of %.40q: %v", s, e)
	}
	return a
}

func toBig(a whole.Int) *big.Int {
	b := new(big.Int).SetBytes([]byte(a.Abs().Bytes()))
	if a.Sign() < 0 {
		b.Neg(b)
	}
	return b
}

// isParts holds a number against what is wanted by its parts, which are the one form that it has.
func isParts(t *testing.T, what string, got Dyad, want *big.Rat) {
	t.Helper()
	m, e := got.Parts()
	if m.Sign() == 0 && e != 0 || m.Sign() != 0 && m.Abs().Low()&1 == 0 {
		t.Fatalf("%s: parts %.60s and %d", what, m.Text(), e)
	}
	if times(toBig(m), e).Cmp(want) != 0 {
		t.Fatalf("%s: %.60s times 2 to the %d, not %.60v", what, m.Text(), e, want)
	}
}

// isDyad holds a number against what is wanted, by all that it tells of itself.
func isDyad(t *testing.T, what string, got Dyad, want *big.Rat) {
	t.Helper()
	isParts(t, what, got, want)
	r := got.Rat()
	if toBig(r.Num()).Cmp(want.Num()) != 0 || toBig(r.Den()).Cmp(want.Denom()) != 0 {
		t.Fatalf("%s: Rat is %.60s, not %.60v", what, r.Text(), want)
	}
}

// isZero holds a number against the zero value, bit by bit.
func isZero(t *testing.T, what string, got Dyad) {
	t.Helper()
	if !reflect.DeepEqual(got, Dyad{}) {
		t.Fatalf("%s: %v", what, got)
	}
}

func isSame[T comparable](t *testing.T, what string, got, want T) {
	t.Helper()
	if got != want {
		t.Errorf("%s: %v, not %v", what, got, want)
	}
}

// place is where a number's limbs lie, 0 of one that has none.
func place(a whole.Int) uintptr {
	return reflect.ValueOf(a).FieldByName("abs").Field(0).Pointer()
}

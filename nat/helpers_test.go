package nat

import (
	"math/big"
	"testing"

	"cincture/api"
)

// source makes the same numbers at each run.
type source uint64

func (s *source) word() uint32 {
	*s = *s*6364136223846793005 + 1442695040888963407
	return uint32(*s >> 33)
}

func (s *source) below(n int) int { return int(s.word() % uint32(n)) }

// number is one of some limbs, many of which are all noughts or all ones: there carries go far.
func (s *source) number(limbs int) *big.Int {
	a := new(big.Int)
	for range limbs {
		a.Lsh(a, 32)
		switch s.below(4) {
		case 0:
		case 1:
			a.Or(a, big.NewInt(1<<32-1))
		case 2:
			a.Or(a, big.NewInt(1<<31))
		default:
			a.Or(a, big.NewInt(int64(s.word())<<1|int64(s.word()&1)))
		}
	}
	return a
}

// edges are the numbers about the places where limbs and words end.
func edges() []*big.Int {
	list := []*big.Int{big.NewInt(0), big.NewInt(1), big.NewInt(2), big.NewInt(3), big.NewInt(10), big.NewInt(999999999), big.NewInt(1000000000)}
	for _, n := range []uint{8, 16, 31, 32, 33, 62, 63, 64, 65, 95, 96, 97, 128, 160} {
		p := new(big.Int).Lsh(big.NewInt(1), n)
		list = append(list, new(big.Int).Sub(p, big.NewInt(1)), p, new(big.Int).Add(p, big.NewInt(1)))
	}
	return list
}

// some is the edges, and numbers of many lengths.
func some() []*big.Int {
	list := edges()
	s := source(7)
	for limbs := 1; limbs <= 24; limbs++ {
		list = append(list, s.number(limbs), s.number(limbs))
	}
	return list
}

func from(t *testing.T, a *big.Int) Nat {
	t.Helper()
	n, e := Read(string(a.Bytes()))
	if e != api.OK {
		t.Fatalf("Read of %v: %v", a, e)
	}
	return n
}

func parse(t *testing.T, s string) Nat {
	t.Helper()
	n, e := Parse(s)
	if e != api.OK {
		t.Fatalf("Parse of %q: %v", s, e)
	}
	return n
}

// power is 2 to the n, and more.
func power(n uint, more int64) *big.Int {
	p := new(big.Int).Lsh(big.NewInt(1), n)
	return p.Add(p, big.NewInt(more))
}

// isNat holds a number against what is wanted, its one form too.
func isNat(t *testing.T, what string, got Nat, want *big.Int) {
	t.Helper()
	if got.Bytes() != string(want.Bytes()) {
		t.Fatalf("%s: %x, not %x", what, got.Bytes(), want.Bytes())
	}
	n := len(got.limbs)
	if n == 0 && got.limbs != nil || n > 0 && got.limbs[n-1] == 0 {
		t.Fatalf("%s: %v is not in its one form", what, got.limbs)
	}
}

func isSame[T comparable](t *testing.T, what string, got, want T) {
	t.Helper()
	if got != want {
		t.Errorf("%s: %v, not %v", what, got, want)
	}
}

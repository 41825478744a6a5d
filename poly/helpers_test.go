package poly

import (
	"fmt"
	"maps"
	"math/big"
	"reflect"
	"slices"
	"strconv"
	"strings"
	"testing"

	"cincture/api"
	"cincture/nat"
	"cincture/rat"
	"cincture/whole"
)

// source makes the same numbers at each run.
type source uint64

func (s *source) below(n int) int {
	*s = *s*6364136223846793005 + 1442695040888963407
	return int(uint32(*s>>33) % uint32(n))
}

// fraction is a small number, never 0.
func (s *source) fraction() string {
	a := big.NewRat(int64(1+s.below(30)), int64(1+s.below(12)))
	if s.below(2) == 0 {
		a.Neg(a)
	}
	return a.RatString()
}

// polynomial is the text of one with so many terms, or fewer, of exponents below some.
func (s *source) polynomial(terms, exponents int) string {
	a := model{}
	for range terms {
		a[[3]int{s.below(exponents), s.below(exponents), s.below(exponents)}] = ratio(s.fraction())
	}
	return a.text()
}

// model is what a polynomial is held against: numbers of the library by exponents; none is 0.
type model map[[3]int]*big.Rat

// plus is a and c times b.
func (a model) plus(b model, c *big.Rat) model {
	out := maps.Clone(a)
	for m, d := range b {
		out.put(m, new(big.Rat).Mul(c, d))
	}
	return out
}

func (a model) put(m [3]int, c *big.Rat) {
	sum := new(big.Rat).Set(c)
	if have := a[m]; have != nil {
		sum.Add(sum, have)
	}
	a[m] = sum
	if sum.Sign() == 0 {
		delete(a, m)
	}
}

// times is a times b; false: an exponent of a product of two terms is above 255.
func (a model) times(b model) (model, bool) {
	out := model{}
	for m, c := range a {
		for n, d := range b {
			sum := [3]int{m[0] + n[0], m[1] + n[1], m[2] + n[2]}
			if slices.Max(sum[:]) > 255 {
				return model{}, false
			}
			out.put(sum, new(big.Rat).Mul(c, d))
		}
	}
	return out, true
}

// at is what a comes to.
func (a model) at(x [3]*big.Rat) *big.Rat {
	sum := new(big.Rat)
	for m, c := range a {
		product := new(big.Rat).Set(c)
		for i, e := range m {
			for range e {
				product.Mul(product, x[i])
			}
		}
		sum.Add(sum, product)
	}
	return sum
}

// monomials is a's, in the order of the document.
func (a model) monomials() [][3]int {
	return slices.SortedFunc(maps.Keys(a), func(m, n [3]int) int { return rank(m) - rank(n) })
}

// rank grows with m by the order of the document: all exponents together first, then each from the first on.
func rank(m [3]int) int {
	return (((m[0]+m[1]+m[2])*256+m[0])*256+m[1])*256 + m[2]
}

// text is what from takes, in the order of the document.
func (a model) text() string {
	var l []string
	for _, m := range a.monomials() {
		l = append(l, strings.TrimSpace(a[m].RatString()+" "+monoText(api.Mono{uint8(m[0]), uint8(m[1]), uint8(m[2])})))
	}
	return strings.Join(l, ", ")
}

// list is the terms of a text, such as "-1/2 x2yz200, 7", as they stand: whatever their coefficients are, and however they follow on each other.
func list(s string) []api.Term {
	if s == "" {
		return nil
	}
	var l []api.Term
	for one := range strings.SplitSeq(s, ", ") {
		c, m, _ := strings.Cut(one, " ")
		l = append(l, api.Term{M: monomial(m), C: c})
	}
	return l
}

// monomial is letters, each with its exponent behind it if that is not 1.
func monomial(s string) api.Mono {
	var m api.Mono
	for s != "" {
		digits := len(s[1:]) - len(strings.TrimLeft(s[1:], "0123456789"))
		e := 1
		if digits > 0 {
			e, _ = strconv.Atoi(s[1 : 1+digits])
		}
		m[s[0]-'x'] = uint8(e)
		s = s[1+digits:]
	}
	return m
}

func monoText(m api.Mono) string {
	out := ""
	for i, e := range m {
		if e > 0 {
			out += string(rune('x' + i))
		}
		if e > 1 {
			out += strconv.Itoa(int(e))
		}
	}
	return out
}

// from is a polynomial by its text, modelOf its model.
func from(t *testing.T, s string) Poly {
	t.Helper()
	return New(terms(t, s)...)
}

func terms(t *testing.T, s string) []Term {
	t.Helper()
	var l []Term
	for _, one := range list(s) {
		l = append(l, Term{one.M, number(t, one.C)})
	}
	return l
}

func modelOf(s string) model {
	a := model{}
	for _, one := range list(s) {
		a.put([3]int{int(one.M[0]), int(one.M[1]), int(one.M[2])}, ratio(one.C))
	}
	return a
}

func ratio(s string) *big.Rat {
	a, ok := new(big.Rat).SetString(s)
	if !ok {
		panic(s + " is no number")
	}
	return a
}

func number(t *testing.T, s string) rat.Rat {
	t.Helper()
	a := ratio(s)
	over, e1 := nat.Read(string(a.Num().Bytes()))
	under, e2 := nat.Read(string(a.Denom().Bytes()))
	r, ok := rat.New(whole.From(a.Sign() < 0, over), whole.From(false, under))
	if e1 != api.OK || e2 != api.OK || !ok {
		t.Fatalf("%.40s is no number", s)
	}
	return r
}

func point(t *testing.T, s string) [3]rat.Rat {
	t.Helper()
	l := strings.Fields(s)
	return [3]rat.Rat{number(t, l[0]), number(t, l[1]), number(t, l[2])}
}

func ratios(s string) [3]*big.Rat {
	l := strings.Fields(s)
	return [3]*big.Rat{ratio(l[0]), ratio(l[1]), ratio(l[2])}
}

// text is p's Terms, one by one.
func text(p Poly) string {
	var l []string
	for _, one := range p.Terms() {
		l = append(l, strings.TrimSpace(one.C.Text()+" "+monoText(one.M)))
	}
	return strings.Join(l, ", ")
}

// some is texts of polynomials: 0, constants, few terms, many, of all exponents up to the greatest, and long numbers.
func some() []string {
	l := []string{
		"", "1", "-7/3", "1 x", "-1 y", "1/2 z", "1 x, 1", "1 x, -1", "1 x, -1 y", "-1 x, 1 y", "2 xy, 1 z, 7", "2/3 x2, -2/3 y2, 1/7 z2, 1 xyz",
		"1 xy, 1 z2, 1 x, 1 y, 1 z, 1", "5 x255", "-1 y255, 1", "1 x255y255z255", "1/3 x200, 1 z", "2 x55z255", "1 x56, 1 y55", "1 x128y127z, -1/9 y128, 3", "1 x127, 1 y127, -4 z127",
		"340282366920938463463374607431768211457/18446744073709551616 x, -18446744073709551615/4294967297, 4294967296 yz",
		"-340282366920938463463374607431768211457/18446744073709551616 x, 1/18446744073709551616 z3",
	}
	s := source(3)
	for _, terms := range []int{2, 3, 5, 8, 20} {
		l = append(l, s.polynomial(terms, 3), s.polynomial(terms, 4))
	}
	return append(l, s.polynomial(6, 256))
}

func isSame[T comparable](t *testing.T, what string, got, want T) {
	t.Helper()
	if got != want {
		t.Errorf("%s: %.300s, not %.300s", what, fmt.Sprint(got), fmt.Sprint(want))
	}
}

// isPoly holds a polynomial against its model by all its Terms, and by its one form.
func isPoly(t *testing.T, what string, got Poly, want model) {
	t.Helper()
	isSame(t, what, text(got), want.text())
	if (got.coefs == nil) != (len(want) == 0) || len(got.coefs) != len(want) {
		t.Errorf("%s: %d coefficients are kept, not %d", what, len(got.coefs), len(want))
	}
}

// places is where the limbs of numbers lie.
func places(l ...rat.Rat) []uintptr {
	var out []uintptr
	for _, a := range l {
		for _, part := range []string{"num", "den"} {
			if p := reflect.ValueOf(a).FieldByName(part).FieldByName("abs").Field(0).Pointer(); p != 0 {
				out = append(out, p)
			}
		}
	}
	return out
}

// kept is all numbers of polynomials.
func kept(l ...Poly) []rat.Rat {
	var out []rat.Rat
	for _, p := range l {
		out = slices.AppendSeq(out, maps.Values(p.coefs))
	}
	return out
}

// coefsOf is all numbers of terms.
func coefsOf(l []Term) []rat.Rat {
	var out []rat.Rat
	for _, one := range l {
		out = append(out, one.C)
	}
	return out
}

// areApart holds that no two numbers of whichever lists share memory.
func areApart(t *testing.T, what string, l ...[]rat.Rat) {
	t.Helper()
	seen := map[uintptr]int{}
	for _, p := range places(slices.Concat(l...)...) {
		seen[p]++
		if seen[p] == 2 {
			t.Errorf("%s: two numbers share memory", what)
		}
	}
}

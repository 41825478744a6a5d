package bound

import (
	"fmt"
	"math/big"
	"reflect"
	"slices"
	"strconv"
	"strings"
	"testing"

	"cincture/api"
	"cincture/box"
	"cincture/nat"
	"cincture/poly"
	"cincture/rat"
	"cincture/span"
	"cincture/whole"
)

// source makes the same numbers at each run.
type source uint64

func (s *source) below(n int) int {
	*s = *s*6364136223846793005 + 1442695040888963407
	return int(uint32(*s>>33) % uint32(n))
}

// fraction is a small number.
func (s *source) fraction() string {
	return big.NewRat(int64(s.below(61)-30), int64(1+s.below(12))).RatString()
}

// polynomial is the text of one with so many terms, or fewer, in some variables, of exponents below some.
func (s *source) polynomial(terms, vars, exponents int) string {
	var l []string
	for range terms {
		one := s.fraction() + " "
		for i := range vars {
			one += string(rune('x'+i)) + strconv.Itoa(s.below(exponents))
		}
		l = append(l, one)
	}
	return strings.Join(l, ", ")
}

// side is the text of two numbers, the first below the second.
func (s *source) side() string {
	for {
		a, b := ratio(s.fraction()), ratio(s.fraction())
		if a.Cmp(b) < 0 {
			return a.RatString() + " " + b.RatString()
		}
	}
}

// sides is as many of them.
func (s *source) sides(n int) string {
	var l []string
	for range n {
		l = append(l, s.side())
	}
	return strings.Join(l, ", ")
}

// ends is two numbers as the library has them, the first not above the second.
type ends struct{ lo, hi *big.Rat }

func (a ends) String() string { return a.lo.RatString() + " " + a.hi.RatString() }

// around is the least ends that have all of l.
func around(l ...*big.Rat) ends {
	return ends{
		slices.MinFunc(l, (*big.Rat).Cmp),
		slices.MaxFunc(l, (*big.Rat).Cmp),
	}
}

func (a ends) plus(b ends) ends {
	return ends{new(big.Rat).Add(a.lo, b.lo), new(big.Rat).Add(a.hi, b.hi)}
}

func (a ends) times(b ends) ends {
	var l []*big.Rat
	for _, x := range []*big.Rat{a.lo, a.hi} {
		for _, y := range []*big.Rat{b.lo, b.hi} {
			l = append(l, new(big.Rat).Mul(x, y))
		}
	}
	return around(l...)
}

// to is what each number of a comes to, e times by itself: at the ends, and at 0 if it has that.
func (a ends) to(e int) ends {
	l := []*big.Rat{raised(a.lo, e), raised(a.hi, e)}
	if a.lo.Sign() < 0 && a.hi.Sign() > 0 {
		l = append(l, raised(new(big.Rat), e))
	}
	return around(l...)
}

func (a ends) has(x *big.Rat) bool { return a.lo.Cmp(x) <= 0 && x.Cmp(a.hi) <= 0 }

// at is the number that is so far on the way from lo to hi.
func (a ends) at(part *big.Rat) *big.Rat {
	out := new(big.Rat).Sub(a.hi, a.lo)
	return out.Add(out.Mul(out, part), a.lo)
}

func alone(a *big.Rat) ends { return ends{a, a} }

func raised(a *big.Rat, e int) *big.Rat {
	by := big.NewInt(int64(e))
	return new(big.Rat).SetFrac(new(big.Int).Exp(a.Num(), by, nil), new(big.Int).Exp(a.Denom(), by, nil))
}

// model is what a polynomial is held against: numbers of the library by exponents.
type model map[[3]int]*big.Rat

func modelOf(s string) model {
	a := model{}
	for _, one := range list(s) {
		m := [3]int{int(one.M[0]), int(one.M[1]), int(one.M[2])}
		if a[m] == nil {
			a[m] = new(big.Rat)
		}
		a[m].Add(a[m], ratio(one.C))
	}
	return a
}

func (a model) diff(i int) model {
	out := model{}
	for m, c := range a {
		if e := m[i]; e > 0 {
			m[i]--
			out[m] = new(big.Rat).Mul(c, big.NewRat(int64(e), 1))
		}
	}
	return out
}

// over is of each term the coefficient times the powers, all added.
func (a model) over(l [3]ends) ends {
	sum := alone(new(big.Rat))
	for m, c := range a {
		one := alone(c)
		for i, e := range m {
			one = one.times(l[i].to(e))
		}
		sum = sum.plus(one)
	}
	return sum
}

// mean is the value in the middle of l, and of each of its first sides the derivative over l, times the side less its middle.
func (a model) mean(l [3]ends, sides int) ends {
	var middle, away [3]ends
	for i, side := range l {
		half := side.at(big.NewRat(1, 2))
		middle[i] = alone(half)
		away[i] = side.plus(alone(new(big.Rat).Neg(half)))
	}
	sum := a.over(middle)
	for i := range sides {
		sum = sum.plus(a.diff(i).over(l).times(away[i]))
	}
	return sum
}

func meet(a, b ends) ends {
	return ends{around(a.lo, b.lo).hi, around(a.hi, b.hi).lo}
}

// vars is how many variables a has, by the last one.
func (a model) vars() int {
	out := 0
	for m, c := range a {
		for i, e := range m {
			if e > 0 && c.Sign() != 0 {
				out = max(out, i+1)
			}
		}
	}
	return out
}

// list is the terms of a text, such as "-1/2 x2yz200, 7".
func list(s string) []api.Term {
	if s == "" {
		return nil
	}
	var l []api.Term
	for one := range strings.SplitSeq(s, ", ") {
		c, m, _ := strings.Cut(one, " ")
		l = append(l, api.Term{M: monomial(m), C: c})
	}
	return l
}

// monomial is letters, each with its exponent behind it if that is not 1.
func monomial(s string) api.Mono {
	var m api.Mono
	for s != "" {
		digits := len(s[1:]) - len(strings.TrimLeft(s[1:], "0123456789"))
		e := 1
		if digits > 0 {
			e, _ = strconv.Atoi(s[1 : 1+digits])
		}
		m[s[0]-'x'] = uint8(e)
		s = s[1+digits:]
	}
	return m
}

// from is a polynomial by its text.
func from(t *testing.T, s string) poly.Poly {
	t.Helper()
	var l []poly.Term
	for _, one := range list(s) {
		l = append(l, poly.Term{M: one.M, C: number(t, one.C)})
	}
	return poly.New(l...)
}

func ratio(s string) *big.Rat {
	a, ok := new(big.Rat).SetString(s)
	if !ok {
		panic(s + " is no number")
	}
	return a
}

func number(t *testing.T, s string) rat.Rat {
	t.Helper()
	a := ratio(s)
	over, e1 := nat.Read(string(a.Num().Bytes()))
	under, e2 := nat.Read(string(a.Denom().Bytes()))
	r, ok := rat.New(whole.From(a.Sign() < 0, over), whole.From(false, under))
	if e1 != api.OK || e2 != api.OK || !ok {
		t.Fatalf("%.40s is no number", s)
	}
	return r
}

// sidesOf is the ends of a text, such as "0 1, 2 5/2".
func sidesOf(s string) []ends {
	if s == "" {
		return nil
	}
	var l []ends
	for one := range strings.SplitSeq(s, ", ") {
		lo, hi, _ := strings.Cut(one, " ")
		l = append(l, ends{ratio(lo), ratio(hi)})
	}
	return l
}

// three is the first three of l, and 0 alone for those that there are not.
func three(l []ends) [3]ends {
	out := [3]ends{alone(new(big.Rat)), alone(new(big.Rat)), alone(new(big.Rat))}
	copy(out[:], l)
	return out
}

// boxOf is the box of a text; nobody looks whether it is Right.
func boxOf(t *testing.T, s string) box.Box {
	t.Helper()
	var b box.Box
	for _, a := range sidesOf(s) {
		b = append(b, span.Span{Lo: number(t, a.lo.RatString()), Hi: number(t, a.hi.RatString())})
	}
	return b
}

func threeOf(t *testing.T, s string) [3]span.Span {
	t.Helper()
	var l [3]span.Span
	copy(l[:], boxOf(t, s))
	return l
}

func text(a span.Span) string {
	p := span.Plain(a)
	return p.Lo + " " + p.Hi
}

func boxText(b box.Box) string {
	var l []string
	for _, a := range b {
		l = append(l, text(a))
	}
	return strings.Join(l, ", ")
}

func polyText(p poly.Poly) string { return fmt.Sprint(poly.Plain(p)) }

func isSame[T comparable](t *testing.T, what string, got, want T) {
	t.Helper()
	if got != want {
		t.Errorf("%s: %.300s, not %.300s", what, fmt.Sprint(got), fmt.Sprint(want))
	}
}

// isSpan holds what a call answered against what is wanted.
func isSpan(t *testing.T, what string, got span.Span, ok bool, want string) {
	t.Helper()
	isSame(t, what, ok, true)
	isSame(t, what, text(got), want)
}

// isNone holds that there is nothing, and a zero value beside it.
func isNone(t *testing.T, what string, got span.Span, ok bool) {
	t.Helper()
	isSame(t, what, ok, false)
	if !reflect.ValueOf(got).IsZero() {
		t.Errorf("%s: %s beside false", what, text(got))
	}
}

// places is where the limbs of numbers lie.
func places(l ...rat.Rat) []uintptr {
	var out []uintptr
	for _, a := range l {
		for _, part := range []string{"num", "den"} {
			if p := reflect.ValueOf(a).FieldByName(part).FieldByName("abs").Field(0).Pointer(); p != 0 {
				out = append(out, p)
			}
		}
	}
	return out
}

// numbersOf is all ends of spans.
func numbersOf(l ...span.Span) []rat.Rat {
	var out []rat.Rat
	for _, a := range l {
		out = append(out, a.Lo, a.Hi)
	}
	return out
}

// kept is where the numbers of a polynomial lie, as it keeps them.
func kept(p poly.Poly) []uintptr {
	var out []uintptr
	for it := reflect.ValueOf(p).FieldByName("coefs").MapRange(); it.Next(); {
		for _, part := range []string{"num", "den"} {
			if at := it.Value().FieldByName(part).FieldByName("abs").Field(0).Pointer(); at != 0 {
				out = append(out, at)
			}
		}
	}
	return out
}

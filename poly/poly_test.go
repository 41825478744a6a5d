package poly

import (
	"fmt"
	"math"
	"strings"
	"testing"

	"cincture/api"
	"cincture/rat"
)

func TestZero(t *testing.T) { // P801
	p, x := Poly{}, from(t, "1 x, 2")
	none, code := Parse(nil)
	product, _ := Mul(x, p)
	composed, _ := Compose(p, [3]Poly{x, x, x})
	gone, _ := Compose(from(t, "1 x, -1 y"), [3]Poly{x, x, x})
	for i, q := range []Poly{p, New(), New(Term{}), New(Term{M: api.Mono{1}}), from(t, "1 x, -1 x"), none, Const(rat.Rat{}), Var(3), Add(p, p), Sub(x, x), Scale(x, rat.Rat{}), Scale(p, rat.Of(2)), product, Diff(p, 0), Diff(Const(rat.Of(3)), 1), composed, gone} {
		what := fmt.Sprint("0, the ", i)
		isPoly(t, what, q, model{})
		isSame(t, what, len(Plain(q)), 0)
		isSame(t, what, Same(p, q) && Same(q, p) && Same(q, q), true)
		isSame(t, what, Same(q, x) || Same(x, q), false)
		isPoly(t, what, Add(q, x), modelOf("1 x, 2"))
		isSame(t, what, Degree(q), -1)
		isSame(t, what, At(q, point(t, "1 2 3")).Text(), "0")
	}
	isSame(t, "Parse", code, api.OK)
}

func TestNew(t *testing.T) { // P801
	for _, c := range [][2]string{
		{"1 x", "1 x"}, {"0 x", ""}, {"0", ""}, {"1 x, -1 x", ""}, {"1 x, 1 x", "2 x"}, {"1/2 x, 1/3 x, 1/6 x", "1 x"}, {"1 x, 2 y, -1 x, 3 x", "2 y, 3 x"}, {"1, 1 x, -1", "1 x"}, {"1 x, 0 x", "1 x"}, {"0 x, 1 x", "1 x"},
		{"1 x, 1 y, 1 z, 1, 1 xy, 1 z2", "1, 1 z, 1 y, 1 x, 1 z2, 1 xy"},
		{"1 x2, 2 y, -1/2, 3 x2, -2 y", "-1/2, 4 x2"},
		{"1 x255, 1 y255z, 1 y255", "1 y255, 1 x255, 1 y255z"}, // a Degree above 255
		{"1 x255y255z255, 2 x255y255z254, 3 x255y255z255", "2 x255y255z254, 4 x255y255z255"},
		{"1 x, 1 y255", "1 x, 1 y255"},
	} {
		p := from(t, c[0])
		isSame(t, "New "+c[0], text(p), c[1])
		isPoly(t, "New "+c[0], p, modelOf(c[0]))
		isPoly(t, "New of Terms "+c[0], New(p.Terms()...), modelOf(c[0]))
	}
	s := source(7)
	for range 300 {
		var l []string
		for range s.below(12) {
			l = append(l, fmt.Sprintf("%d x%dy%dz%d", s.below(5)-2, s.below(2), s.below(2), s.below(2)))
		}
		all := strings.Join(l, ", ")
		isPoly(t, "New "+all, from(t, all), modelOf(all))
	}
}

func TestTerms(t *testing.T) { // P801
	for _, s := range some() {
		p, want := from(t, s), modelOf(s)
		l := p.Terms()
		isSame(t, "Terms "+s, len(l), len(want))
		for i, m := range want.monomials() {
			isSame(t, "monomial of "+s, l[i].M, api.Mono{uint8(m[0]), uint8(m[1]), uint8(m[2])})
			isSame(t, "coefficient of "+s, l[i].C.Text(), want[m].RatString())
		}
	}
}

func TestVarConst(t *testing.T) { // P801
	for i, want := range []string{"1 x", "1 y", "1 z"} {
		isPoly(t, want, Var(i), modelOf(want))
	}
	for _, i := range []int{3, 4, 255, 256, math.MaxInt, -1, -2, -253, -256, math.MinInt} {
		isPoly(t, fmt.Sprint("Var ", i), Var(i), model{})
	}
	for _, c := range []string{"0", "1", "-1", "-5/3", "7", "18446744073709551616/3"} {
		isPoly(t, "Const "+c, Const(number(t, c)), modelOf(c))
	}
}

func TestSame(t *testing.T) { // P801
	list := some()
	for i, a := range list {
		for k, b := range list {
			isSame(t, "Same "+a+" and "+b, Same(from(t, a), from(t, b)), i == k)
		}
	}
	for _, c := range []struct {
		a, b string
		want bool
	}{
		{"4 x2, -1/2", "-1/2, 4 x2", true}, {"1 x, 1 x", "2 x", true}, {"1 x, 0 y", "1 x", true},
		{"4 x2, -1/2", "4 x2", false}, {"4 x2, -1/2", "4 x2, 1/2", false}, {"4 x2, -1/2", "4 xy, -1/2", false}, {"4 x2, -1/2", "4 x2, -1/2, 1 z", false}, {"4 x2, -1/2", "4, -1/2 x2", false},
		{"1 x", "1 y", false}, {"1 x", "1 x2", false}, {"1 x", "-1 x", false}, {"1/2 x", "2 x", false}, {"1", "1 x", false}, {"1 x", "18446744073709551617/18446744073709551616 x", false},
	} {
		isSame(t, "Same "+c.a+" and "+c.b, Same(from(t, c.a), from(t, c.b)), c.want)
		isSame(t, "Same "+c.b+" and "+c.a, Same(from(t, c.b), from(t, c.a)), c.want)
	}
}

// What is handed in, and what was answered, may be changed without any effect on a polynomial.
func TestOwnMemory(t *testing.T) { // P801
	l := terms(t, "1/2 x, 2/3 y, 5/7")
	p := New(l...)
	isPoly(t, "ahead", p, modelOf("1/2 x, 2/3 y, 5/7"))
	areApart(t, "New", coefsOf(l), kept(p))
	l[0] = Term{api.Mono{9}, rat.Of(9)}
	told := p.Terms()
	areApart(t, "Terms", kept(p), coefsOf(told), coefsOf(p.Terms()))
	told[0], told[1].M, told[2].C = Term{}, api.Mono{7, 7, 7}, rat.Rat{}
	isPoly(t, "behind", p, modelOf("1/2 x, 2/3 y, 5/7"))
	plain := Plain(p)
	parsed, _ := Parse(plain)
	plain[0] = api.Term{M: api.Mono{3}, C: "3"}
	isPoly(t, "Parse", parsed, modelOf("1/2 x, 2/3 y, 5/7"))
	isSame(t, "Plain", Plain(p)[0], api.Term{C: "5/7"})
	r := number(t, "5/7")
	areApart(t, "Const", []rat.Rat{r}, kept(Const(r)), kept(Const(r)))
	areApart(t, "Var", kept(Var(0)), kept(Var(0)))
}

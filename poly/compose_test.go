package poly

import (
	"fmt"
	"math/big"
	"testing"

	"cincture/mono"
	"cincture/rat"
)

// compose is Compose as the document words it: term by term, product by product.
func (a model) compose(l [3]model) (model, bool) {
	sum := model{}
	for _, m := range a.monomials() {
		product := model{{}: a[m]}
		for i, e := range m {
			for range e {
				var ok bool
				if product, ok = product.times(l[i]); !ok {
					return model{}, false
				}
			}
		}
		sum = sum.plus(product, big.NewRat(1, 1))
	}
	return sum, true
}

func holdCompose(t *testing.T, p, x, y, z string) {
	t.Helper()
	l := [3]Poly{from(t, x), from(t, y), from(t, z)}
	got, ok := Compose(from(t, p), l)
	want, is := modelOf(p).compose([3]model{modelOf(x), modelOf(y), modelOf(z)})
	what := fmt.Sprintf("Compose %s with %s; %s; %s", p, x, y, z)
	isSame(t, what, ok, is)
	isPoly(t, what, got, want)
	isPoly(t, what+": behind", l[0], modelOf(x))
	isPoly(t, what+": behind", l[1], modelOf(y))
	isPoly(t, what+": behind", l[2], modelOf(z))
}

func TestComposeByText(t *testing.T) { // P802
	for _, c := range []struct {
		p, x, y, z, want string
		ok               bool
	}{
		{"1 x2", "1 x, 1", "", "", "1, 2 x, 1 x2", true},
		{"7, 1 z, 2 xy", "1 x, 1", "1 x, -1 y", "1/2", "15/2, -2 y, 2 x, -2 xy, 2 x2", true},
		{"", "1 x", "1 x", "1 x", "", true},
		{"4, 3 x", "", "", "", "4", true},
		{"1 xyz", "1 z", "1 x", "1 y", "1 xyz", true},
		{"1 x2yz3", "1 z", "1 x", "1 y", "1 xy3z2", true},
		{"1 x2, -1 y2", "1 x, 1", "1 x, 1", "", "", true},
		{"1 x, 1 y, 1 z", "2", "3", "-5", "", true},
		{"1/3 x2, 1 y", "3", "1 y", "9", "3, 1 y", true},
		{"1 x2", "1 x100", "", "", "1 x200", true},
		{"1 x3", "1 x100", "", "", "", false},
		{"1 x3y", "1 x100", "", "", "", false}, // beyond MaxExp ahead of the 0
		{"1 x2y", "1 x100", "", "", "", true},
		{"1 xy3", "", "1 x100", "", "", true}, // 0 ahead of what would be beyond
		{"1 xz3", "", "", "1 x100", "", true},
		{"1 yz3", "1 x", "", "1 x100", "", true},
		{"1 y3z", "", "1 x100", "", "", false},
		{"1 xy3", "1", "1 x100", "", "", false},
		{"1 z3", "", "", "1 x100", "", false},
		{"1 x, 1 z3", "", "", "1 x100", "", false}, // one term is enough
		{"1 z3, 1 xz3", "", "", "1 x100", "", false},
		{"1 x3, -1 y3", "1 x100", "1 x100", "", "", false}, // both together would be 0
		{"1 x2y", "1 x100", "1 x55", "", "1 x255", true},
		{"1 x2y", "1 x100", "1 x56", "", "", false},
		{"1 xyz", "1 y100", "1 y100", "1 y55", "1 y255", true},
		{"1 xyz", "1 z100", "1 z100", "1 z56", "", false},
		{"1 x255", "1 x", "", "", "1 x255", true},
		{"1 x255", "1 y", "", "", "1 y255", true},
		{"1 x255", "1 x2", "", "", "", false},
		{"1 x255y", "1 x", "1 x", "", "", false},
		{"1 x255y255z255", "1 z", "1 x", "1 y", "1 x255y255z255", true},
		{"1 x255y255z255", "1", "-1", "2", "-57896044618658097711785492504343953926634992332820282019728792003956564819968", true},
		{"1 x128", "1 xyz, 1", "", "", "-", true},
		{"1 x128", "1 x2yz, 1", "", "", "", false},
		{"1 x128, 1 z", "1 x, 1 y2", "", "1", "", false},
		{"1 x127, 1 z", "1 x, 1 y2", "", "1", "-", true},
	} {
		p, ok := Compose(from(t, c.p), [3]Poly{from(t, c.x), from(t, c.y), from(t, c.z)})
		what := fmt.Sprintf("Compose %s with %s; %s; %s", c.p, c.x, c.y, c.z)
		isSame(t, what, ok, c.ok)
		if c.want != "-" { // too long to be written out
			isSame(t, what, text(p), c.want)
		}
		holdCompose(t, c.p, c.x, c.y, c.z)
	}
}

func TestCompose(t *testing.T) { // P802
	parts := []string{"", "-2/3", "1 x, 1", "1 y2, -1 x", "1 x100", "1 z60, 3 xy"}
	for _, p := range []string{"", "3", "1 x", "1 y", "1 z", "1 x2, -1 y2", "1 x, 1 y, 1 z, 1", "1 x2y, -1/2 xy2, 4 z", "2 xyz, -1 x2y2z2", "1 x3, 1 y3, 1 z3", "5 z4, 1 xz, 1 x2z"} {
		for _, x := range parts {
			for _, y := range parts {
				for _, z := range parts {
					holdCompose(t, p, x, y, z)
				}
			}
		}
	}
	s := source(77)
	for range 60 {
		holdCompose(t, s.polynomial(9, 4), s.polynomial(2, 3), s.polynomial(3, 2), s.polynomial(2, 3))
	}
	for range 200 { // some of these go too far, some do not
		holdCompose(t, s.polynomial(3, 4), s.polynomial(1, 60), s.polynomial(1, 60), s.polynomial(1, 60))
	}
}

// The value of what is composed is the value at the values.
func TestComposeAt(t *testing.T) { // P802
	s := source(5)
	for range 60 {
		p, l := from(t, s.polynomial(6, 4)), [3]Poly{from(t, s.polynomial(3, 3)), from(t, s.polynomial(3, 3)), from(t, s.polynomial(3, 3))}
		x := point(t, s.fraction()+" "+s.fraction()+" "+s.fraction())
		q, ok := Compose(p, l)
		isSame(t, "Compose", ok, true)
		isSame(t, "At", At(q, x).Text(), At(p, [3]rat.Rat{At(l[0], x), At(l[1], x), At(l[2], x)}).Text())
	}
}

// What is too far, or becomes 0, is told without the products on the way, which nobody could wait for.
func TestComposeTellsAhead(t *testing.T) { // P802
	var l []Term
	for i, m := range mono.Below(3, 8) {
		l = append(l, Term{m, rat.Of(int64(i + 1))})
	}
	many := New(l...)
	for _, s := range []string{"1 x255", "1 y255", "1 z255", "1 x32", "1 x11y11z11", "1 x255y255z255"} {
		p, ok := Compose(from(t, s), [3]Poly{many, many, many})
		isSame(t, "Compose "+s, ok, false)
		isPoly(t, "Compose "+s, p, model{})
	}
	line := from(t, "1 x, 1 y, 1 z, 1")
	p, ok := Compose(from(t, "1 x255y, 1 x255z, 5"), [3]Poly{line, {}, {}})
	isSame(t, "Compose", ok, true)
	isPoly(t, "Compose", p, modelOf("5"))
}

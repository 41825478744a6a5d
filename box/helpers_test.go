package box

import (
	"math/big"
	"reflect"
	"strings"
	"testing"

	"cincture/api"
	"cincture/nat"
	"cincture/rat"
	"cincture/span"
	"cincture/whole"
)

// source makes the same numbers at each run.
type source uint64

func (s *source) below(n int) int {
	*s = *s*6364136223846793005 + 1442695040888963407
	return int(uint32(*s>>33) % uint32(n))
}

// power is 2 to the n, and more.
func power(n uint, more int64) *big.Int {
	p := new(big.Int).Lsh(big.NewInt(1), n)
	return p.Add(p, big.NewInt(more))
}

func quotient(t *testing.T, n, d *big.Int) rat.Rat {
	t.Helper()
	over, e1 := nat.Read(string(n.Bytes()))
	under, e2 := nat.Read(string(d.Bytes()))
	r, ok := rat.New(whole.From(n.Sign() < 0, over), whole.From(d.Sign() < 0, under))
	if e1 != api.OK || e2 != api.OK || !ok {
		t.Fatalf("%v by %v is no number", n, d)
	}
	return r
}

func number(t *testing.T, s string) rat.Rat {
	t.Helper()
	a, e := rat.Parse(s)
	if e != api.OK {
		t.Fatalf("rat.Parse of %.40q: %v", s, e)
	}
	return a
}

// from is the box with those sides, such as "0 1, 2 5/2"; nobody looks whether it is Right.
func from(t *testing.T, s string) Box {
	t.Helper()
	var b Box
	for _, p := range pairs(s) {
		b = append(b, span.Span{Lo: number(t, p.Lo), Hi: number(t, p.Hi)})
	}
	return b
}

// boxes is as many boxes, with `;` between.
func boxes(t *testing.T, s string) []Box {
	t.Helper()
	var l []Box
	for one := range strings.SplitSeq(s, ";") {
		l = append(l, from(t, strings.TrimSpace(one)))
	}
	return l
}

// pairs is the ends of sides as they stand, whether they are numbers or not; `_` is an empty one.
func pairs(s string) []api.Pair {
	if s == "" {
		return nil
	}
	var l []api.Pair
	for side := range strings.SplitSeq(s, ", ") {
		lo, hi, _ := strings.Cut(side, " ")
		l = append(l, api.Pair{Lo: strings.ReplaceAll(lo, "_", ""), Hi: strings.ReplaceAll(hi, "_", "")})
	}
	return l
}

// text is what from takes.
func text(b Box) string {
	var l []string
	for _, side := range b {
		l = append(l, side.Lo.Text()+" "+side.Hi.Text())
	}
	return strings.Join(l, ", ")
}

func point(t *testing.T, s string) []rat.Rat {
	t.Helper()
	var x []rat.Rat
	for one := range strings.FieldsSeq(s) {
		x = append(x, number(t, one))
	}
	return x
}

func pointText(x []rat.Rat) string {
	var l []string
	for _, r := range x {
		l = append(l, r.Text())
	}
	return strings.Join(l, " ")
}

// wrong is boxes that are not Right: of no sides, of too many, with a side that is a number or the wrong way round, wherever it stands.
func wrong(t *testing.T) []Box {
	t.Helper()
	return append(boxes(t, "0 0; 1 1; 1 0; -1/2 -1; 0 1, 2 2; 2 2, 0 1; 0 1, 1 0; 1 0, 0 1; 0 1, 0 1, 3 3; 0 1, 3 2, 0 1; 5 4, 0 1, 0 1; 0 1, 0 1, 0 1, 0 1; 0 1, 0 1, 0 1, 0 1, 0 1"), nil, Box{}, Box{{}}, make(Box, 3))
}

func isSame[T comparable](t *testing.T, what string, got, want T) {
	t.Helper()
	if got != want {
		t.Errorf("%s: %v, not %v", what, got, want)
	}
}

func isNone(t *testing.T, what string, b Box) {
	t.Helper()
	if len(b) != 0 {
		t.Errorf("%s: %.60s beside a refusal", what, text(b))
	}
}

// places is where the limbs of numbers lie.
func places(l ...rat.Rat) []uintptr {
	var out []uintptr
	for _, a := range l {
		for _, part := range []string{"num", "den"} {
			if p := reflect.ValueOf(a).FieldByName(part).FieldByName("abs").Field(0).Pointer(); p != 0 {
				out = append(out, p)
			}
		}
	}
	return out
}

// ends is all numbers of a box.
func ends(b Box) []rat.Rat {
	var out []rat.Rat
	for _, side := range b {
		out = append(out, side.Lo, side.Hi)
	}
	return out
}

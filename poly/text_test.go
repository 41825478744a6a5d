package poly

import (
	"math/big"
	"slices"
	"strings"
	"testing"

	"cincture/api"
)

func TestPlain(t *testing.T) { // P801
	for _, s := range some() {
		p := from(t, s)
		l := Plain(p)
		if want := list(modelOf(s).text()); !slices.Equal(l, want) {
			t.Errorf("Plain %s: %v, not %v", s, l, want)
		}
		q, code := Parse(l)
		isSame(t, "Parse "+s, code, api.OK)
		isPoly(t, "Parse "+s, q, modelOf(s))
		isSame(t, "Parse "+s, Same(p, q), true)
	}
}

func TestParse(t *testing.T) { // P801
	for _, s := range []string{"", "1", "-1", "1 x", "-1/2 x255y255z255", "1, -1/2 xy", "3 y, 3 x", "1, 1 z, 1 y, 1 x, 1 z2, 1 yz, 1 y2, 1 xz, 1 xy, 1 x2, 1 z3", "1 y255, 1 x255, 1 y255z", "1 x2, 1 y3", "1 x2, 1 z255"} {
		p, code := Parse(list(s))
		isSame(t, "Parse "+s, code, api.OK)
		isSame(t, "Parse "+s, text(p), s)
		isPoly(t, "Parse "+s, p, modelOf(s))
	}
}

func TestParseRefuses(t *testing.T) { // P801
	for _, s := range []string{
		"0", "0 x", "1, 0 x", "0, 1 x", "1, 0 x, 1 y2", // a coefficient 0
		"1, 1", "1 x, 1 x", "1 x, -1 x", "1, 1 x, 2 x", "1 x, 1 x, 1 x2", "1, 1 x, 1", // a monomial twice
		"1 x, 1", "1 x, 1 y", "1 y, 1 z", "1 x, 1 z", "1 y2, 1 x", "1 x2, 1 xy", "1 xy, 1 xz", "1 y255z, 1 x255", "1, 1 x, 1 y", "1, 1 x2, 1 x, 1 x3", "1 z, 1, 1 x", // not in order
		"2/4 x", "-0", "-0 x", "00", "01 x", "+1 x", "1/1 x", "1/0 x", "0/5", "1/-2", "1/2/3", "1. x", "0.5 x", "a", "0x1", "1/", "/2", "-", "--1", "1e3", "1/02", "1_0", "-1/ x", // a coefficient that is none
		"1, 2/4 x", "2/4, 1 x", "1 y, 1 x, a x2",
	} {
		isRefused(t, s, list(s))
	}
	isRefused(t, "no coefficient", []api.Term{{}})
	isRefused(t, "no coefficient", []api.Term{{M: api.Mono{1}}})
	isRefused(t, "no coefficient behind one", []api.Term{{C: "1"}, {M: api.Mono{1}}})
	for _, c := range []string{" 1", "1 ", "1\n", "\t1", "1 /2", "1/ 2", "\x00", "１", "1,2"} {
		isRefused(t, "coefficient "+c, []api.Term{{C: c}})
		isRefused(t, "coefficient "+c, []api.Term{{C: "1"}, {M: api.Mono{1}, C: c}})
	}
}

func isRefused(t *testing.T, what string, l []api.Term) {
	t.Helper()
	p, code := Parse(l)
	isSame(t, "Parse "+what, code, api.ErrForm)
	isPoly(t, "Parse "+what, p, model{})
}

// All lists of three terms out of a few: just those are taken that are the Plain of what New makes of them.
func TestParseTakesPlainAlone(t *testing.T) { // P801
	few := list("1, -1, 0, 1 z, 1/2 y, 1 x, 0 x, -1 z2, 2 x2, 2/4 xy")
	taken := 0
	for _, a := range few {
		for _, b := range few {
			for _, c := range few {
				l := []api.Term{a, b, c}
				if slices.Contains(l, few[9]) { // what is no number is not for New
					isRefused(t, "of three", l)
					continue
				}
				var all []string
				for _, one := range l {
					all = append(all, one.C+" "+monoText(one.M))
				}
				s := strings.Join(all, ", ")
				if p := from(t, s); !slices.Equal(Plain(p), l) {
					isRefused(t, s, l)
					continue
				}
				taken++
				p, code := Parse(l)
				isSame(t, "Parse "+s, code, api.OK)
				isPoly(t, "Parse "+s, p, modelOf(s))
			}
		}
	}
	isSame(t, "lists that are taken", taken, 30) // in order: three of six monomials, those with a constant once for each of two
}

// Numbers of MaxDigits digits are read, longer ones told alone.
func TestParseDigits(t *testing.T) { // P801
	most := strings.Repeat("9", api.MaxDigits)
	for _, c := range []struct {
		text string
		code api.Code
	}{
		{most, api.OK}, {"-" + most, api.OK}, {"1/" + most, api.OK}, {"-1/" + most, api.OK},
		{most + "9", api.ErrForm}, {"-1" + most, api.ErrForm}, {"1/1" + most, api.ErrForm}, {"1" + most + "/11", api.ErrForm},
	} {
		a, _ := new(big.Rat).SetString(c.text)
		p := from(t, c.text+" x")
		isSame(t, "Plain", Plain(p)[0].C, a.RatString())
		q, code := Parse(Plain(p))
		isSame(t, "Parse", code, c.code)
		isSame(t, "Parse", Same(p, q), code == api.OK)
		isSame(t, "Parse", len(q.Terms()) == 0, code != api.OK)
	}
}

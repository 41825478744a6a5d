package bound

import (
	"math/big"
	"testing"

	"cincture/box"
	"cincture/poly"
	"cincture/rat"
	"cincture/span"
)

func TestSides(t *testing.T) { // P901
	for _, c := range []struct {
		p, b string
		want bool
	}{
		{"", "0 1", true}, {"7", "0 1", true}, {"1 x", "0 1", true}, {"1 x255, 1", "-2 -1", true}, {"1 y", "0 1", false}, {"1 z", "0 1", false}, {"1 x, 1 y", "0 1", false}, {"1 xz", "0 1", false},
		{"", "0 1, 0 1", true}, {"1 x", "0 1, 0 1", true}, {"1 y", "0 1, 0 1", true}, {"1 x, 1 xy", "0 1, 0 1", true}, {"1 z", "0 1, 0 1", false}, {"1 x, 1 y, 1 z", "0 1, 0 1", false}, {"1 xz, 1 y", "0 1, 0 1", false},
		{"", "0 1, 0 1, 0 1", true}, {"1 x", "0 1, 0 1, 0 1", true}, {"1 z", "0 1, 0 1, 0 1", true}, {"1 xyz", "0 1/3, 0 1, 0 1", true}, {"1 y, -1 y", "0 1", true},
	} {
		isSame(t, "Sides of "+c.p+" on "+c.b, Sides(from(t, c.p), boxOf(t, c.b)), c.want)
	}
}

// wrong is boxes that are not Right.
func wrong(t *testing.T) []box.Box {
	l := []box.Box{nil, {}}
	for _, s := range []string{
		"0 0", "1 1", "1 0", "-1 -2", "0 1, 1 1", "1 1, 0 1", "0 1, 1 0", "1 0, 0 1", "0 1, 0 1, 0 0", "0 1, 0 0, 0 1", "0 0, 0 1, 0 1", "0 1, 0 1, 2 1",
		"0 1, 0 1, 0 1, 0 1", "0 1, 0 1, 0 1, 1 1", "0 1, 0 1, 0 1, 0 1, 0 1",
	} {
		l = append(l, boxOf(t, s))
	}
	return l
}

func TestRefuses(t *testing.T) { // P901
	for _, p := range polys() {
		made, vars := from(t, p), modelOf(p).vars()
		for _, b := range wrong(t) {
			hasNone(t, made, b)
		}
		for _, b := range boxTexts() {
			if len(sidesOf(b)) < vars {
				hasNone(t, made, boxOf(t, b))
			}
		}
	}
}

// hasNone holds that p has no bounds on b.
func hasNone(t *testing.T, p poly.Poly, b box.Box) {
	t.Helper()
	what := polyText(p) + " on " + boxText(b)
	isSame(t, "Sides of "+what, Sides(p, b), false)
	natural, ok := Natural(p, b)
	isNone(t, "Natural of "+what, natural, ok)
	mean, ok := Mean(p, b)
	isNone(t, "Mean of "+what, mean, ok)
	best, ok := Best(p, b)
	isNone(t, "Best of "+what, best, ok)
}

func TestBounds(t *testing.T) { // P901
	for _, c := range []struct{ p, b, natural, mean, best string }{
		{"1 x2, -1 x", "0 1", "-1 1", "-3/4 1/4", "-3/4 1/4"},
		{"", "0 1", "0 0", "0 0", "0 0"}, {"", "0 1, 0 1, 0 1", "0 0", "0 0", "0 0"}, {"-7/3", "5 6", "-7/3 -7/3", "-7/3 -7/3", "-7/3 -7/3"},
		{"1 x", "-1 2", "-1 2", "-1 2", "-1 2"}, {"-2 x, 1", "-1 2", "-3 3", "-3 3", "-3 3"}, {"1 x", "-1 2, 5 9", "-1 2", "-1 2", "-1 2"}, {"1 y", "5 9, -1 2", "-1 2", "-1 2", "-1 2"}, {"1 z", "5 9, 5 9, 0 1/3", "0 1/3", "0 1/3", "0 1/3"},
		{"1 x2", "-1 1", "0 1", "-2 2", "0 1"}, {"1 x2", "1 2", "1 4", "1/4 17/4", "1 4"}, {"1 x2", "-1 2", "0 4", "-23/4 25/4", "0 4"},
		{"1 x2, -2 x", "1/2 3/2", "-11/4 5/4", "-3/2 -1/2", "-3/2 -1/2"}, {"1 x, -1 x2", "0 1/2", "-1/4 1/2", "-1/16 7/16", "-1/16 7/16"},
		{"1 xy, 2", "0 1, -1 3", "1 5", "-1 6", "1 5"}, {"1 x, -1 y", "0 1, 0 1", "-1 1", "-1 1", "-1 1"}, {"1 xyz", "0 2, 0 2, 0 2", "0 8", "-11 13", "0 8"},
		{"1 x3, -1 x", "0 1", "-1 1", "-11/8 5/8", "-1 5/8"}, {"1 x, -1 x3", "0 1", "-1 1", "-5/8 11/8", "-5/8 1"},
	} {
		p, b, what := from(t, c.p), boxOf(t, c.b), c.p+" on "+c.b
		got, ok := Natural(p, b)
		isSpan(t, "Natural of "+what, got, ok, c.natural)
		got, ok = Mean(p, b)
		isSpan(t, "Mean of "+what, got, ok, c.mean)
		got, ok = Best(p, b)
		isSpan(t, "Best of "+what, got, ok, c.best)
	}
}

// onBoxes does something with each polynomial and each box that has enough sides for it.
func onBoxes(t *testing.T, do func(what string, p poly.Poly, a model, b box.Box, l []ends)) {
	for _, p := range polys() {
		made, a := from(t, p), modelOf(p)
		for _, b := range boxTexts() {
			if l := sidesOf(b); a.vars() <= len(l) {
				do(p+" on "+b, made, a, boxOf(t, b), l)
			}
		}
	}
}

func TestBoundsByModel(t *testing.T) { // P901
	onBoxes(t, func(what string, p poly.Poly, a model, b box.Box, l []ends) {
		isSame(t, "Sides of "+what, Sides(p, b), true)
		natural, mean := a.over(three(l)), a.mean(three(l), len(l))
		got, ok := Natural(p, b)
		isSpan(t, "Natural of "+what, got, ok, natural.String())
		got, ok = Mean(p, b)
		isSpan(t, "Mean of "+what, got, ok, mean.String())
		got, ok = Best(p, b)
		isSpan(t, "Best of "+what, got, ok, meet(natural, mean).String())
	})
}

// Corners, edges, and points by the way between.
func TestPointsAreWithin(t *testing.T) { // P902
	parts := []*big.Rat{big.NewRat(0, 1), big.NewRat(1, 3), big.NewRat(1, 2), big.NewRat(1, 1)}
	onBoxes(t, func(what string, p poly.Poly, a model, b box.Box, l []ends) {
		natural, _ := Natural(p, b)
		mean, _ := Mean(p, b)
		best, _ := Best(p, b)
		all := map[string]ends{"Natural": endsOf(natural), "Mean": endsOf(mean), "Best": endsOf(best)}
		for place := range 1 << (2 * len(l)) {
			x := three(nil)
			for i, side := range l {
				x[i] = alone(side.at(parts[place>>(2*i)%len(parts)]))
			}
			value := a.over(x).lo
			for call, bounds := range all {
				if !bounds.has(value) {
					t.Errorf("%s of %s has no %s", call, what, value.RatString())
				}
			}
		}
	})
}

func endsOf(a span.Span) ends { return ends{ratio(a.Lo.Text()), ratio(a.Hi.Text())} }

// Numbers of as many binary digits as the promises speak of.
func TestLong(t *testing.T) { // P901
	far := span.Pow(span.Pow(span.Of(rat.Of(-1<<16)), 255), 255).Lo // -2 to the 1040400
	b := box.Box{{Lo: far, Hi: rat.Neg(far)}, {Hi: rat.Of(1)}}
	p := from(t, "2 x, -2 y")
	for what, call := range map[string]func(poly.Poly, box.Box) (span.Span, bool){"Natural": Natural, "Mean": Mean, "Best": Best} {
		got, ok := call(p, b)
		isSame(t, what, ok, true)
		isSame(t, what+" Lo", rat.Cmp(got.Lo, rat.Sub(rat.Add(far, far), rat.Of(2))), 0)
		isSame(t, what+" Hi", rat.Cmp(got.Hi, rat.Neg(rat.Add(far, far))), 0)
	}
}

// No answer lies where something lies that was handed in, nor where another answer does; nor do its own numbers with one another.
func TestAnswersAreNew(t *testing.T) { // P901
	p := from(t, "18446744073709551617/3 x, 36893488147419103233")
	for _, q := range []poly.Poly{p, poly.Var(0), from(t, "-1 x"), from(t, "18446744073709551617")} {
		b := boxOf(t, "-73786976294838206463/36893488147419103232 147573952589676412927/36893488147419103232, -3/4 18446744073709551617/4")
		var answers []span.Span
		for range 2 {
			natural, _ := Natural(q, b)
			mean, _ := Mean(q, b)
			best, _ := Best(q, b)
			answers = append(answers, Over(q, [3]span.Span{b[0], b[1]}), natural, mean, best)
		}
		seen := map[uintptr]bool{}
		for _, at := range append(kept(q), places(numbersOf(b...)...)...) {
			seen[at] = true
		}
		for _, at := range places(numbersOf(answers...)...) {
			if seen[at] {
				t.Errorf("%s: an answer shares memory", polyText(q))
			}
			seen[at] = true
		}
	}
}

// Nothing writes into what was handed in; what is handed in may be changed behind the call.
func TestNothingIsWritten(t *testing.T) { // P901
	p, b := from(t, "1 x2y, -1/3 x, 5"), boxOf(t, "-1 2, 1/2 3")
	before, sides := polyText(p), boxText(b)
	natural, _ := Natural(p, b)
	mean, _ := Mean(p, b)
	best, _ := Best(p, b)
	over := Over(p, [3]span.Span{b[0], b[1]})
	isSame(t, "p behind", polyText(p), before)
	isSame(t, "b behind", boxText(b), sides)
	all := text(natural) + text(mean) + text(best) + text(over)
	b[0], b[1] = span.Span{}, span.Span{}
	isSame(t, "the answers behind", text(natural)+text(mean)+text(best)+text(over), all)
}

package box

import (
	"testing"

	"cincture/rat"
	"cincture/span"
)

func TestAskByText(t *testing.T) { // P602
	for _, c := range []struct {
		a, b          string
		within, meets bool
		hull          string
	}{
		{"0 2", "0 2", true, true, "0 2"}, {"0 1", "0 2", true, true, "0 2"}, {"1 2", "0 2", true, true, "0 2"}, {"1/2 3/2", "0 2", true, true, "0 2"}, {"0 3", "0 2", false, true, "0 3"}, {"-1 2", "0 2", false, true, "-1 2"},
		{"-1 0", "0 2", false, false, "-1 2"}, {"2 3", "0 2", false, false, "0 3"}, {"3 4", "0 2", false, false, "0 4"}, {"-1 1/18446744073709551616", "0 2", false, true, "-1 2"},
		{"0 1, 0 1", "0 2, 0 2", true, true, "0 2, 0 2"}, {"0 1, 0 3", "0 2, 0 2", false, true, "0 2, 0 3"}, {"-1 1, 0 1", "0 2, 0 2", false, true, "-1 2, 0 2"}, {"0 1, 2 3", "0 2, 0 2", false, false, "0 2, 0 3"}, {"2 3, 0 1", "0 2, 0 2", false, false, "0 3, 0 2"}, {"2 3, 2 3", "0 2, 0 2", false, false, "0 3, 0 3"}, {"-1 3, 1/3 2/3", "0 2, 0 2", false, true, "-1 3, 0 2"},
		{"1 2, 1 2, 1 2", "0 2, 0 2, 0 2", true, true, "0 2, 0 2, 0 2"}, {"1 2, 1 2, 1 3", "0 2, 0 2, 0 2", false, true, "0 2, 0 2, 0 3"}, {"1 2, 1 2, 2 3", "0 2, 0 2, 0 2", false, false, "0 2, 0 2, 0 3"}, {"1 2, -1 0, 1 2", "0 2, 0 2, 0 2", false, false, "0 2, -1 2, 0 2"},
	} {
		a, b, what := from(t, c.a), from(t, c.b), c.a+"; "+c.b
		isSame(t, "Within "+what, Within(a, b), c.within)
		isSame(t, "Meets "+what, Meets(a, b), c.meets)
		isSame(t, "Meets back "+what, Meets(b, a), c.meets)
		for _, two := range [][2]Box{{a, b}, {b, a}} {
			hull, ok := Hull(two[0], two[1])
			isSame(t, "Hull "+what, ok, true)
			isSame(t, "Hull "+what, text(hull), c.hull)
		}
		isSame(t, "a behind", text(a), c.a)
		isSame(t, "b behind", text(b), c.b)
	}
}

// By the promises' own words, of all boxes of two sides with ends 0 to 3: points at halves tell all.
func TestAskByPoints(t *testing.T) { // P602
	var sides []span.Span
	for lo := int64(0); lo < 3; lo++ {
		for hi := lo + 1; hi <= 3; hi++ {
			sides = append(sides, span.Span{Lo: rat.Of(lo), Hi: rat.Of(hi)})
		}
	}
	var all []Box
	for _, x := range sides {
		for _, y := range sides {
			all = append(all, Box{x, y})
		}
	}
	for _, a := range all {
		for _, b := range all {
			within, meets := byPoints(a, b)
			what := text(a) + "; " + text(b)
			isSame(t, "Within "+what, Within(a, b), within)
			isSame(t, "Meets "+what, Meets(a, b), meets)
			hull, ok := Hull(a, b)
			isSame(t, "Hull "+what, ok && Within(a, hull) && Within(b, hull), true)
			for _, c := range all {
				if Within(a, c) && Within(b, c) {
					isSame(t, "Hull "+what+" in "+text(c), Within(hull, c), true)
				}
			}
		}
	}
}

// byPoints tells whether all points of a are in b, and whether one is in both that is on no edge of either.
func byPoints(a, b Box) (bool, bool) {
	within, meets := true, false
	for x := int64(0); x <= 12; x++ {
		for y := int64(0); y <= 12; y++ {
			p := []rat.Rat{quarter(x), quarter(y)}
			if Has(a, p) && !Has(b, p) {
				within = false
			}
			if Has(a, p) && Has(b, p) && !onEdge(a, p) && !onEdge(b, p) {
				meets = true
			}
		}
	}
	return within, meets
}

func quarter(n int64) rat.Rat {
	q, _ := rat.Div(rat.Of(n), rat.Of(4))
	return q
}

func onEdge(b Box, p []rat.Rat) bool {
	for i, side := range b {
		if rat.Cmp(p[i], side.Lo) == 0 || rat.Cmp(p[i], side.Hi) == 0 {
			return true
		}
	}
	return false
}

func TestHas(t *testing.T) { // P602
	for _, c := range []struct {
		b, x string
		want bool
	}{
		{"0 2", "1", true}, {"0 2", "0", true}, {"0 2", "2", true}, {"0 2", "1/3", true}, {"0 2", "-1/18446744073709551616", false}, {"0 2", "36893488147419103233/18446744073709551616", false}, {"1/3 2/3", "1/3", true},
		{"0 2, 3 4", "0 3", true}, {"0 2, 3 4", "2 4", true}, {"0 2, 3 4", "0 4", true}, {"0 2, 3 4", "1 7/2", true}, {"0 2, 3 4", "1 5", false}, {"0 2, 3 4", "1 2", false}, {"0 2, 3 4", "3 3", false}, {"0 2, 3 4", "-1 3", false}, {"0 2, 3 4", "3 1", false},
		{"0 1, 0 1, 0 1", "0 1 1/2", true}, {"0 1, 0 1, 0 1", "0 1 2", false}, {"0 1, 0 1, 0 1", "0 2 1", false}, {"0 1, 0 1, 0 1", "-1 0 1", false},
		{"0 2", "", false}, {"0 2", "1 1", false}, {"0 2, 0 2", "1", false}, {"0 2, 0 2", "1 1 1", false}, {"0 2, 0 2", "", false}, {"0 1, 0 1, 0 1", "0 0", false}, {"0 1, 0 1, 0 1", "0 0 0 0", false},
	} {
		isSame(t, c.b+" has "+c.x, Has(from(t, c.b), point(t, c.x)), c.want)
	}
}

// Of boxes that are not Right, and of two with unlike numbers of sides, all is false.
func TestAskRefuses(t *testing.T) { // P601 P602 P603
	right := boxes(t, "-9 9; -9 9, -9 9; -9 9, -9 9, -9 9")
	for _, a := range wrong(t) {
		for _, b := range append(wrong(t), right...) {
			noTwo(t, a, b)
			noTwo(t, b, a)
		}
		isSame(t, "Has "+text(a), Has(a, make([]rat.Rat, len(a))), false)
		isSame(t, "Has "+text(a), Has(a, nil), false)
		var los []rat.Rat
		for _, side := range a {
			los = append(los, side.Lo)
		}
		isSame(t, "Has its Lo "+text(a), Has(a, los), false)
	}
	for _, a := range right {
		for _, b := range right {
			if len(a) != len(b) {
				noTwo(t, a, b)
			}
		}
	}
}

func noTwo(t *testing.T, a, b Box) {
	t.Helper()
	what := text(a) + "; " + text(b)
	isSame(t, "Within "+what, Within(a, b), false)
	isSame(t, "Meets "+what, Meets(a, b), false)
	isSame(t, "Covers "+what, Covers(a, []Box{b}), false)
	hull, ok := Hull(a, b)
	isSame(t, "Hull "+what, ok, false)
	isNone(t, "Hull "+what, hull)
}

package box

import (
	"fmt"
	"math"
	"math/big"
	"testing"

	"cincture/rat"
	"cincture/span"
)

func TestRight(t *testing.T) { // P601
	for _, s := range []string{"0 1", "-1 0", "0 1/3", "2/7 1/3, 0 1", "0 1, -5 5", "0 1, 0 1, 0 1", "18446744073709551615/18446744073709551616 1", "-18446744073709551617 -18446744073709551616, 0 1"} {
		isSame(t, s, Right(from(t, s)), true)
	}
	for _, b := range wrong(t) {
		isSame(t, text(b), Right(b), false)
	}
}

func TestSplit(t *testing.T) { // P602
	for _, c := range []struct {
		b         string
		i         int
		low, high string
	}{
		{"0 1", 0, "0 1/2", "1/2 1"}, {"-3 -1", 0, "-3 -2", "-2 -1"}, {"-1 2", 0, "-1 1/2", "1/2 2"}, {"0 1/3", 0, "0 1/6", "1/6 1/3"}, {"-1 1", 0, "-1 0", "0 1"},
		{"0 1, 2 4", 0, "0 1/2, 2 4", "1/2 1, 2 4"}, {"0 1, 2 4", 1, "0 1, 2 3", "0 1, 3 4"},
		{"0 1, 2 4, 1/4 1/2", 0, "0 1/2, 2 4, 1/4 1/2", "1/2 1, 2 4, 1/4 1/2"}, {"0 1, 2 4, 1/4 1/2", 1, "0 1, 2 3, 1/4 1/2", "0 1, 3 4, 1/4 1/2"}, {"0 1, 2 4, 1/4 1/2", 2, "0 1, 2 4, 1/4 3/8", "0 1, 2 4, 3/8 1/2"},
	} {
		b, what := from(t, c.b), fmt.Sprintf("Split %s, %d", c.b, c.i)
		low, high, ok := Split(b, c.i)
		isSame(t, what, ok, true)
		isSame(t, what, text(low), c.low)
		isSame(t, what, text(high), c.high)
		isSame(t, what+" behind", text(b), c.b)
	}
}

func TestSplitRefuses(t *testing.T) { // P602
	for _, b := range []Box{from(t, "0 1"), from(t, "0 1, 2 4"), from(t, "0 1, 2 4, 0 1")} {
		for _, i := range []int{math.MinInt, -2, -1, len(b), len(b) + 1, 3, 4, math.MaxInt} {
			low, high, ok := Split(b, i)
			what := fmt.Sprintf("Split %s, %d", text(b), i)
			isSame(t, what, ok, false)
			isNone(t, what, low)
			isNone(t, what, high)
		}
	}
	for _, b := range wrong(t) {
		for i := -1; i <= len(b); i++ {
			low, high, ok := Split(b, i)
			what := fmt.Sprintf("Split %s, %d", text(b), i)
			isSame(t, what, ok, false)
			isNone(t, what, low)
			isNone(t, what, high)
		}
	}
}

func TestWidest(t *testing.T) { // P602
	for _, c := range []struct {
		b    string
		want int
	}{
		{"0 1", 0}, {"5 6, 0 2", 1}, {"0 2, 5 6", 0}, {"0 1, 5 6", 0}, {"-1 1, -5 -4", 0}, {"-5 -4, -1 1", 1}, {"0 1/3, 0 1/2", 1},
		{"0 1, 0 1, 0 1", 0}, {"0 1, 0 1, 0 2", 2}, {"0 1, 0 2, 0 1", 1}, {"0 1, 0 2, 5 7", 1}, {"0 2, 0 1, 1 3", 0}, {"0 1, 0 2, 0 3", 2}, {"0 3, 0 2, 0 1", 0}, {"0 1, 0 3, 0 2", 1},
		{"0 1, 0 18446744073709551617/18446744073709551616", 1}, {"0 18446744073709551617/18446744073709551616, 0 1", 0}, {"100 101, 0 1/2", 0},
	} {
		isSame(t, c.b, Widest(from(t, c.b)), c.want)
	}
	for _, b := range wrong(t) {
		isSame(t, text(b), Widest(b), -1)
	}
}

func TestMid(t *testing.T) { // P602
	for _, c := range [][2]string{{"0 1", "1/2"}, {"-3 -2", "-5/2"}, {"-1 1, 2 4", "0 3"}, {"0 1/3, 5 6, -1/2 0", "1/6 11/2 -1/4"}} {
		isSame(t, c[0], pointText(Mid(from(t, c[0]))), c[1])
	}
	for _, b := range wrong(t) {
		isSame(t, text(b), len(Mid(b)), 0)
	}
}

// Numbers of as many binary digits as the promises speak of.
func TestLong(t *testing.T) { // P601 P602 P603
	const most = 1 << 20
	far, near := quotient(t, power(most, -1), big.NewInt(1)), quotient(t, big.NewInt(-1), power(most-1, 0))
	b := Box{{Lo: near, Hi: far}, {Hi: rat.Of(1)}}
	isSame(t, "Right", Right(b), true)
	isSame(t, "Right", Right(Box{{Lo: far, Hi: far}}), false)
	b[0].Lo = rat.Of(1)
	isSame(t, "Widest", Widest(b), 0)
	low, high, ok := Split(b, 0)
	isSame(t, "Split", ok, true)
	half := quotient(t, power(most-1, 0), big.NewInt(1))
	isSame(t, "Split", rat.Cmp(low[0].Hi, half) == 0 && rat.Cmp(high[0].Lo, half) == 0 && rat.Cmp(Mid(b)[0], half) == 0, true)
	isSame(t, "Has", Has(b, []rat.Rat{half, rat.Of(1)}), true)
	isSame(t, "Within", Within(low, b) && Within(high, b) && !Within(b, high), true)
	isSame(t, "Meets", Meets(low, b) && !Meets(low, high), true)
	hull, _ := Hull(low, high)
	isSame(t, "Hull", Within(b, hull) && Within(hull, b), true)
	isSame(t, "Covers", Covers(b, []Box{low, high}), true)
	high[0].Lo = rat.Add(high[0].Lo, quotient(t, big.NewInt(1), power(64, 0)))
	isSame(t, "Covers", Covers(b, []Box{low, high}), false)
}

// No answer lies where something lies that was handed in, nor where another answer does; nor do its own numbers with one another.
func TestAnswersAreNew(t *testing.T) { // P601 P602
	b := from(t, "-73786976294838206463/36893488147419103232 147573952589676412927/36893488147419103232, -3/4 18446744073709551617/4")
	low, high, _ := Split(b, 1)
	hull, _ := Hull(b, b)
	parsed, _ := Parse(Plain(b))
	again, _ := Parse(Plain(b))
	answers := map[string][]rat.Rat{"low": ends(low), "high": ends(high), "Hull": ends(hull), "Parse": ends(parsed), "Parse again": ends(again), "Mid": Mid(b), "Mid again": Mid(b)}
	seen := map[uintptr]string{}
	for _, p := range places(ends(b)...) {
		seen[p] = "what was handed in"
	}
	for what, l := range answers {
		for _, p := range places(l...) {
			if other, ok := seen[p]; ok {
				t.Errorf("%s lies where %s lies", what, other)
			}
			seen[p] = what
		}
	}
}

// Nor do lists: what is written into one is not seen in another.
func TestListsAreNew(t *testing.T) { // P602
	b := from(t, "0 4, 0 4")
	low, high, _ := Split(b, 0)
	hull, _ := Hull(b, b)
	middle := Mid(b)
	for i := range b {
		low[i] = span.Of(rat.Of(7))
		isSame(t, "b", text(b), "0 4, 0 4")
		isSame(t, "high", text(high), "2 4, 0 4")
		isSame(t, "Hull", text(hull), "0 4, 0 4")
	}
	b[0], b[1] = span.Of(rat.Of(9)), span.Of(rat.Of(9))
	isSame(t, "high", text(high), "2 4, 0 4")
	isSame(t, "Hull", text(hull), "0 4, 0 4")
	isSame(t, "Mid", pointText(middle), "2 2")
}

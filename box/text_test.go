package box

import (
	"strings"
	"testing"

	"cincture/api"
)

func TestParseTakes(t *testing.T) { // P601
	most := strings.Repeat("9", api.MaxDigits)
	for _, s := range []string{"0 1", "-1 0", "-1/2 3/4", "-7/8 -3/4", "5 6, -1 1", "0 1, 0 1/1024, -3 18446744073709551616", "18446744073709551615/18446744073709551616 1", "-" + most + " " + most} {
		b, code := Parse(pairs(s))
		isSame(t, s, code, api.OK)
		isSame(t, s, text(b), s)
		isSame(t, s, Right(b), true)
	}
}

func TestParseRefuses(t *testing.T) { // P601
	long := "1" + strings.Repeat("0", api.MaxDigits)
	for _, c := range []struct {
		sides string
		code  api.Code
	}{
		{"", api.ErrArg}, {"0 1, 0 1, 0 1, 0 1", api.ErrArg}, {"x y, 0 1, 0 1, 0 1", api.ErrArg}, {"0 1/3, 0 1, 0 1, 0 1, 0 1", api.ErrArg},
		{"x 1", api.ErrForm}, {"0 x", api.ErrForm}, {"_ _", api.ErrForm}, {"_ 1", api.ErrForm}, {"0 _", api.ErrForm}, {"2/4 1", api.ErrForm}, {"-0 1", api.ErrForm}, {"0 01", api.ErrForm}, {"0 +1", api.ErrForm}, {"0 1/1", api.ErrForm}, {"0 1/0", api.ErrForm}, {"0 " + long, api.ErrForm}, {"1/" + long + " 1", api.ErrForm}, {"1 x", api.ErrForm}, {"3 2/4", api.ErrForm},
		{"1 0", api.ErrArg}, {"0 -1", api.ErrArg}, {"1/2 1/4", api.ErrArg}, {"1 1", api.ErrArg}, {"0 0", api.ErrArg}, {"-1/2 -1/2", api.ErrArg},
		{"1/3 1", api.ErrForm}, {"0 1/3", api.ErrForm}, {"1/3 2/3", api.ErrForm}, {"-5/6 1", api.ErrForm}, {"0 1/12", api.ErrForm}, {"0 1/18446744073709551617", api.ErrForm},
		// the order of the ends counts ahead of whether they are dyadic
		{"1/3 0", api.ErrArg}, {"1/3 1/3", api.ErrArg}, {"1 1/3", api.ErrArg}, {"2/3 1/3", api.ErrArg},
	} {
		refuses(t, c.sides, c.code)
		if c.code != api.ErrArg || len(pairs(c.sides)) == 1 {
			refuses(t, "0 1, "+c.sides, c.code)
			refuses(t, c.sides+", 0 1", c.code)
			refuses(t, "0 1, "+c.sides+", 0 1", c.code)
			refuses(t, "0 1, 0 1, "+c.sides, c.code)
		}
	}
}

// The first side that is wrong tells, whatever is wrong with those behind it.
func TestParseTellsFirstSide(t *testing.T) { // P601
	kinds := []struct {
		side string
		code api.Code
	}{{"x 1", api.ErrForm}, {"2 1", api.ErrArg}, {"1 1", api.ErrArg}, {"0 1/3", api.ErrForm}, {"1/3 1/3", api.ErrArg}}
	for _, a := range kinds {
		for _, b := range kinds {
			refuses(t, a.side+", "+b.side, a.code)
			refuses(t, "0 1, "+a.side+", "+b.side, a.code)
			refuses(t, a.side+", 0 1, "+b.side, a.code)
			for _, c := range kinds {
				refuses(t, a.side+", "+b.side+", "+c.side, a.code)
				refuses(t, a.side+", "+b.side+", "+c.side+", 0 1", api.ErrArg)
			}
		}
	}
}

func refuses(t *testing.T, sides string, code api.Code) {
	t.Helper()
	b, got := Parse(pairs(sides))
	isSame(t, "Parse "+sides, got, code)
	isNone(t, "Parse "+sides, b)
}

// What is handed in stays as it is, and may be changed behind the call.
func TestParseKeepsNothing(t *testing.T) { // P601
	l := pairs("0 1, 2 3")
	b, _ := Parse(l)
	isSame(t, "handed in", l[0].Lo+l[0].Hi+l[1].Lo+l[1].Hi, "0123")
	l[0] = api.Pair{Lo: "7", Hi: "8"}
	isSame(t, "behind", text(b), "0 1, 2 3")
	told := Plain(b)
	told[1].Lo = "9"
	isSame(t, "told", text(b), "0 1, 2 3")
	isSame(t, "told", Plain(b)[1].Lo, "2")
}

// Each side is told as it is, Right or not.
func TestPlain(t *testing.T) { // P601
	for _, s := range []string{"", "0 1", "-1/3 2/7", "0 1, 1 1, 3 2", "0 1, 0 1, 0 1, 0 1/2", "5 5", "-18446744073709551616 1/18446744073709551616, 0 4"} {
		told, want := Plain(from(t, s)), pairs(s)
		isSame(t, s, len(told), len(want))
		for i := range want {
			isSame(t, s, told[i], want[i])
		}
	}
	isSame(t, "zero", Plain(make(Box, 2))[1], api.Pair{Lo: "0", Hi: "0"})
}

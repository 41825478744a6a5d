package span

import (
	"fmt"
	"math/big"
	"strings"
	"testing"

	"cincture/api"
	"cincture/rat"
)

func TestZero(t *testing.T) { // P501 P502 P503
	var zero Span
	isSame(t, "Plain", text(zero), "0 0")
	one := Of(rat.Of(1))
	for what, a := range map[string]Span{"Of": Of(rat.Rat{}), "Parse": parse(t, "0", "0"), "Add": Add(zero, zero), "Sub": Sub(one, one), "Mul": Mul(zero, parse(t, "-7", "9")), "Mul by": Mul(parse(t, "-7", "9"), zero), "Scale": Scale(parse(t, "-7", "9"), rat.Rat{}), "Scale of": Scale(zero, rat.Of(-3)), "Pow": Pow(zero, 4), "Hull": Hull(zero, zero), "Round": Round(zero, 3)} {
		isZero(t, what, a)
		isSame(t, what, Same(a, zero), true)
		isSame(t, what, Sign(a), 0)
	}
	isSame(t, "Pow", text(Pow(zero, 0)), "1 1")
	isSame(t, "Has", Has(zero, rat.Rat{}), true)
	isSame(t, "Has", Has(zero, number(t, "1/18446744073709551616")), false)
	isSame(t, "Mid", Mid(zero).Text(), "0")
	isSame(t, "Width", Width(zero).Text(), "0")
	isSame(t, "Within", Within(zero, zero), true)
	isSame(t, "Inside", Inside(zero, zero), false)
	met, ok := Meet(zero, parse(t, "-1", "0"))
	isSame(t, "Meet", ok, true)
	isZero(t, "Meet", met)
}

func TestNew(t *testing.T) { // P501
	list := numbers()
	for _, a := range list {
		isSpan(t, fmt.Sprintf("Of %v", a), Of(ratFrom(t, a)), ends{a, a})
		for _, b := range list {
			got, ok := New(ratFrom(t, a), ratFrom(t, b))
			what := fmt.Sprintf("New %v, %v", a, b)
			isSame(t, what, ok, a.Cmp(b) <= 0)
			if ok {
				isSpan(t, what, got, ends{a, b})
			} else {
				isZero(t, what, got)
			}
		}
	}
}

func TestParse(t *testing.T) { // P501
	for _, c := range []struct {
		lo, hi string
		code   api.Code
	}{
		{"1/3", "5", api.OK}, {"2", "2", api.OK}, {"-1/2", "-1/2", api.OK}, {"-7", "0", api.OK}, {"0", "0", api.OK}, {"-5/2", "-7/3", api.OK}, {"18446744073709551615/18446744073709551616", "1", api.OK},
		{"3", "2", api.ErrArg}, {"0", "-1", api.ErrArg}, {"1/2", "1/3", api.ErrArg}, {"-7/3", "-5/2", api.ErrArg}, {"1", "18446744073709551615/18446744073709551616", api.ErrArg},
		{"x", "2", api.ErrForm}, {"2", "x", api.ErrForm}, {"", "", api.ErrForm}, {"", "1", api.ErrForm}, {"1", "", api.ErrForm}, {"2/4", "3", api.ErrForm}, {"3", "2/4", api.ErrForm}, {"-0", "1", api.ErrForm}, {"-1", "+1", api.ErrForm}, {"1/0", "2", api.ErrForm}, {"0", "1/1", api.ErrForm}, {" 1", "2", api.ErrForm}, {"01", "2", api.ErrForm}, {"1", "2.5", api.ErrForm}, {"1/-2", "1", api.ErrForm},
	} {
		got, code := Parse(api.Pair{Lo: c.lo, Hi: c.hi})
		what := "Parse " + c.lo + ", " + c.hi
		isSame(t, what, code, c.code)
		if c.code == api.OK {
			isSame(t, what, text(got), c.lo+" "+c.hi)
		} else {
			isZero(t, what, got)
		}
	}
}

// What is no number counts ahead of the order of the ends, whichever end it is.
func TestParseTellsFormFirst(t *testing.T) { // P501
	for _, p := range []api.Pair{{Lo: "3", Hi: "2/4"}, {Lo: "6/4", Hi: "1"}, {Lo: "9", Hi: "-0"}} {
		got, code := Parse(p)
		isSame(t, p.Lo+", "+p.Hi, code, api.ErrForm)
		isZero(t, p.Lo+", "+p.Hi, got)
	}
}

func TestParseOfManyDigits(t *testing.T) { // P501
	most := strings.Repeat("9", api.MaxDigits)
	one := "1" + strings.Repeat("0", api.MaxDigits-1)
	got := parse(t, "-"+most+"/"+one, one+"/"+most)
	isSame(t, "Plain", text(got), "-"+most+"/"+one+" "+one+"/"+most)
	for _, p := range []api.Pair{{Lo: "0", Hi: most + "9"}, {Lo: "-" + most + "9", Hi: "0"}, {Lo: "1/" + one + "0", Hi: "1"}} {
		got, code := Parse(p)
		isSame(t, "Parse", code, api.ErrForm)
		isZero(t, "Parse", got)
	}
}

// What is told is taken again, as the same.
func TestPlain(t *testing.T) { // P501
	for _, a := range some() {
		p := Plain(from(t, a))
		isSame(t, "Lo", p.Lo, a.lo.RatString())
		isSame(t, "Hi", p.Hi, a.hi.RatString())
		isSpan(t, "Parse", parse(t, p.Lo, p.Hi), a)
	}
}

// Numbers of as many binary digits as the promises speak of.
func TestLong(t *testing.T) { // P501 P502 P503
	const most = 1 << 20
	far, near := new(big.Rat).SetInt(power(most, -1)), new(big.Rat).SetFrac(big.NewInt(-1), power(most-1, 1))
	a := from(t, ends{near, far})
	isSpan(t, "New", a, ends{near, far})
	isSpan(t, "Round", Round(a, 1), ends{new(big.Rat).SetFrac(big.NewInt(-1), power(most-1, 0)), new(big.Rat).SetInt(power(most, 0))})
	isSpan(t, "Hull", Hull(a, Of(rat.Of(-1))), ends{big.NewRat(-1, 1), far})
	isSpan(t, "Scale", Scale(a, rat.Of(-1)), ends{new(big.Rat).Neg(far), new(big.Rat).Neg(near)})
	isSame(t, "Has", Has(a, rat.Of(0)), true)
	isSame(t, "Sign", Sign(a), 0)
	isSame(t, "Within", Within(Of(rat.Of(5)), a), true)
	long := between(new(big.Rat).SetInt(power(4100, -1)), new(big.Rat).SetInt(power(4100, -3)))
	isSpan(t, "Pow", Pow(from(t, long), 255), ends{raise(long.lo, 255), raise(long.hi, 255)})
	holdPair(t, between(new(big.Rat).SetFrac(power(1<<16, -1), power(1<<15, 0)), new(big.Rat).SetFrac(power(1<<15, 3), big.NewInt(-7))), ends{near, big.NewRat(1, 3)})
}

// Of ends that are the wrong way round nothing is said but that calls end.
func TestWrongWayRound(t *testing.T) { // P501 P502 P503
	for _, l := range [][2]int64{{2, 1}, {1, -1}, {-1, -2}, {0, -1}, {1, 0}} {
		a := Span{rat.Of(l[0]), rat.Of(l[1])}
		for _, b := range []Span{a, {}, parse(t, "-3", "4"), {rat.Of(9), rat.Of(-9)}} {
			Add(a, b)
			Sub(a, b)
			Mul(a, b)
			Mul(b, a)
			Within(a, b)
			Inside(b, a)
			Hull(a, b)
			Meet(a, b)
			Same(a, b)
		}
		for n := -1; n <= 4; n++ {
			Pow(a, n)
			Round(a, n)
		}
		Scale(a, rat.Of(-2))
		Has(a, rat.Of(0))
		Mid(a)
		Width(a)
		Sign(a)
		Plain(a)
	}
}

// No answer lies where something lies that was handed in, nor where another answer does; nor do its two ends with one another.
func TestAnswersAreNew(t *testing.T) { // P501 P502 P503
	lo, hi := number(t, "-73786976294838206463/36893488147419103232"), number(t, "147573952589676412927/36893488147419103233")
	a, _ := New(lo, hi)
	again, _ := New(lo, hi)
	zero, one := Span{}, Of(rat.Of(1))
	met, _ := Meet(a, a)
	answers := map[string]Span{"New": a, "New again": again, "Of": Of(lo), "Parse": parse(t, lo.Text(), lo.Text()), "Add 0": Add(a, zero), "Add to 0": Add(zero, a), "Sub 0": Sub(a, zero), "Sub from 0": Sub(zero, a), "Mul 1": Mul(a, one), "Mul of 1": Mul(one, a), "Mul -1": Mul(a, Sub(zero, one)), "Mul self": Mul(a, a),
		"Scale": Scale(a, rat.Of(1)), "Scale -1": Scale(a, rat.Of(-1)), "Pow 0": Pow(a, 0), "Pow 1": Pow(a, 1), "Pow 2": Pow(a, 2), "Hull": Hull(a, a), "Hull of a number": Hull(Of(lo), Of(lo)), "Meet": met, "Round": Round(a, 4096), "Mid, Width": {Mid(a), Width(a)}, "Mid, Width of a number": {Mid(Of(lo)), Width(Of(hi))}}
	seen := map[uintptr]string{}
	for _, p := range append(places(lo), places(hi)...) {
		seen[p] = "what was handed in"
	}
	for what, x := range answers {
		for _, p := range append(places(x.Lo), places(x.Hi)...) {
			if other, ok := seen[p]; ok {
				t.Errorf("%s lies where %s lies", what, other)
			}
			seen[p] = what
		}
	}
	isSame(t, "a behind", text(a), lo.Text()+" "+hi.Text())
}

package nat

import (
	"math/big"
	"strings"
	"testing"

	"cincture/api"
)

func TestZero(t *testing.T) { // P101
	var zero Nat
	isSame(t, "Text", zero.Text(), "0")
	isSame(t, "Bytes", zero.Bytes(), "")
	isSame(t, "Cmp", Cmp(zero, Of(0)), 0)
	isNat(t, "Of", Of(0), new(big.Int))
}

func TestOf(t *testing.T) { // P101
	for _, v := range []uint64{0, 1, 9, 10, 1<<32 - 1, 1 << 32, 1<<32 + 1, 1 << 63, 1<<64 - 1} {
		isNat(t, "Of", Of(v), new(big.Int).SetUint64(v))
	}
}

func TestParseTakes(t *testing.T) { // P101
	for _, s := range []string{"0", "1", "9", "10", "999999999", "1000000000", "1000000001", "4294967295", "4294967296",
		"18446744073709551615", "18446744073709551616", "1000000000000000000", "1000000001000000002", "100000000000000000000000000000"} {
		want, _ := new(big.Int).SetString(s, 10)
		isNat(t, s, parse(t, s), want)
		isSame(t, "Text", parse(t, s).Text(), s)
	}
}

func TestParseLong(t *testing.T) { // P101
	for _, c := range []string{"1", "9", "5"} {
		for n := api.MaxDigits - 20; n <= api.MaxDigits; n++ {
			s := c + strings.Repeat("0", n-2) + "7"
			if c == "9" {
				s = strings.Repeat("9", n)
			}
			want, _ := new(big.Int).SetString(s, 10)
			isNat(t, "Parse", parse(t, s), want)
			isSame(t, "Text", parse(t, s).Text(), s)
		}
	}
	for _, s := range []string{strings.Repeat("9", api.MaxDigits+1), "1" + strings.Repeat("0", api.MaxDigits), strings.Repeat("0", api.MaxDigits), strings.Repeat("1", 1<<20)} {
		refuses(t, s)
	}
}

func TestParseRefuses(t *testing.T) { // P101
	for _, s := range []string{"", "00", "01", "007", "-", "-0", "-1", "+1", "1a", "a1", " 1", "1 ", "1\n", "1_0", "1/2", "1.0", "1e3", "0x1", "½", "١", "１", "1\x00", "\x00", "\xff"} {
		refuses(t, s)
	}
	for c := range 256 {
		if c >= '0' && c <= '9' {
			continue
		}
		bad := string([]byte{byte(c)})
		refuses(t, bad)
		refuses(t, "1234567890"+bad)
		refuses(t, bad+"1234567890")
		refuses(t, "123456789"+bad+"123456789")
	}
}

func refuses(t *testing.T, s string) {
	t.Helper()
	n, e := Parse(s)
	if e != api.ErrForm || n.limbs != nil {
		t.Errorf("Parse of %.40q: %v, %v", s, n.limbs, e)
	}
}

func TestText(t *testing.T) { // P101
	for _, a := range some() {
		isSame(t, "Text", from(t, a).Text(), a.String())
		isNat(t, "Parse", parse(t, a.String()), a)
	}
	p := big.NewInt(1) // noughts within and at the end
	for range 80 {
		p.Mul(p, big.NewInt(10))
		isSame(t, "Text", from(t, p).Text(), p.String())
		q := new(big.Int).Add(p, big.NewInt(1))
		isSame(t, "Text", from(t, q).Text(), q.String())
		q.Sub(p, big.NewInt(1))
		isSame(t, "Text", from(t, q).Text(), q.String())
	}
}

func TestTextOfMoreDigitsThanParseTakes(t *testing.T) { // P101
	n := parse(t, strings.Repeat("9", api.MaxDigits))
	isSame(t, "Text", Add(n, Of(1)).Text(), "1"+strings.Repeat("0", api.MaxDigits))
	a := power(1<<16, -1)
	isSame(t, "Text", from(t, a).Text(), a.String())
}

func TestRead(t *testing.T) { // P101
	for b, want := range map[string]string{"": "0", "\x01": "1", "\x07": "7", "\xff": "255", "\x01\x00": "256", "\x01\x02\x03": "66051", "\xff\xff\xff\xff": "4294967295", "\x01\x00\x00\x00\x00": "4294967296",
		"\x12\x34\x56\x78\x9a\xbc\xde\xf0\x11": "335812727670730321937"} {
		n, e := Read(b)
		isSame(t, "Read", e, api.OK)
		isSame(t, "Text", n.Text(), want)
		isSame(t, "Bytes", n.Bytes(), b)
	}
	for _, b := range []string{"\x00", "\x00\x00", "\x00\x01", "\x00\x00\x00\x00\x01", "\x00" + strings.Repeat("\xff", 99)} {
		n, e := Read(b)
		isSame(t, "code", e, api.ErrForm)
		isSame(t, "number", n.limbs == nil, true)
	}
}

func TestBytes(t *testing.T) { // P101
	for _, a := range some() {
		b := parse(t, a.String()).Bytes()
		isSame(t, "Bytes", b, string(a.Bytes()))
	}
	s := source(3)
	for n := 1; n <= 70; n++ {
		b := make([]byte, n)
		for i := range b {
			b[i] = byte(s.word())
		}
		b[0] |= 1
		isNat(t, "Read", from(t, new(big.Int).SetBytes(b)), new(big.Int).SetBytes(b))
	}
}

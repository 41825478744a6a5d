package whole

import (
	"strings"

	"cincture/api"
	"cincture/nat"
)

// Parse is the number whose text s is; ErrForm, unless s is what nat.Parse takes, or `-` and that of a number that is not 0.
func Parse(s string) (Int, api.Code) {
	digits, below := strings.CutPrefix(s, "-")
	abs, code := nat.Parse(digits)
	if code != api.OK || below && isZero(abs) {
		return Int{}, api.ErrForm
	}
	return signed(below, abs), api.OK
}

// Text is a's decimal digits, `-` ahead of them below 0.
func (a Int) Text() string {
	if a.below {
		return "-" + a.abs.Text()
	}
	return a.abs.Text()
}

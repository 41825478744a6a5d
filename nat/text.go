package nat

import (
	"slices"
	"strconv"
	"strings"

	"cincture/api"
)

// Texts are read and written in groups of digits, as many as fit a limb.
const (
	groupDigits = 9
	groupSize   = 1000000000
)

// Parse is the number whose text s is; ErrForm, unless s is 1 to MaxDigits decimal digits without noughts ahead.
func Parse(s string) (Nat, api.Code) {
	if !isNumber(s) {
		return Nat{}, api.ErrForm
	}
	limbs := make([]uint32, 0, len(s)/groupDigits+1)
	for len(s) > 0 {
		// The first group is the short one: all the others then weigh groupSize.
		n := (len(s)-1)%groupDigits + 1
		limbs = timesAndMore(limbs, groupSize, groupValue(s[:n]))
		s = s[n:]
	}
	return wrap(limbs), api.OK
}

// isNumber tells whether s is a text that Parse takes.
func isNumber(s string) bool {
	if len(s) < 1 || len(s) > api.MaxDigits || s[0] == '0' && len(s) > 1 {
		return false
	}
	for i := range len(s) {
		if s[i] < '0' || s[i] > '9' {
			return false
		}
	}
	return true
}

// groupValue is the number that a group of digits stands for.
func groupValue(digits string) uint32 {
	var v uint32
	for i := range len(digits) {
		v = v*10 + uint32(digits[i]-'0')
	}
	return v
}

// timesAndMore is x times by, and more, in x's place.
func timesAndMore(x []uint32, by, more uint32) []uint32 {
	carry := uint64(more)
	for i, v := range x {
		carry += uint64(v) * uint64(by)
		x[i] = uint32(carry)
		carry >>= limbBits
	}
	if carry != 0 {
		x = append(x, uint32(carry))
	}
	return x
}

// Text is a's decimal digits.
func (a Nat) Text() string {
	if len(a.limbs) <= 2 {
		return strconv.FormatUint(a.Low(), 10)
	}
	groups := groupsOf(a)
	last := len(groups) - 1
	out := strconv.AppendUint(make([]byte, 0, groupDigits*len(groups)), uint64(groups[last]), 10)
	for i := last - 1; i >= 0; i-- {
		out = appendGroup(out, groups[i])
	}
	return string(out)
}

// groupsOf is a's groups of digits, the lowest first.
func groupsOf(a Nat) []uint32 {
	left := slices.Clone(a.limbs)
	var groups []uint32
	for len(left) > 0 {
		groups = append(groups, divideByLimb(left, groupSize))
		left = trim(left)
	}
	return groups
}

// appendGroup appends all the digits of a group, noughts ahead too.
func appendGroup(out []byte, group uint32) []byte {
	digits := strconv.Itoa(int(group))
	out = append(out, strings.Repeat("0", groupDigits-len(digits))...)
	return append(out, digits...)
}

// Read is the number whose bytes b are, the greatest first; ErrForm, if the first one is 0.
func Read(b string) (Nat, api.Code) {
	if len(b) > 0 && b[0] == 0 {
		return Nat{}, api.ErrForm
	}
	limbs := make([]uint32, (len(b)+3)/4)
	for i := range len(b) {
		place := len(b) - 1 - i
		limbs[place/4] |= uint32(b[i]) << (place % 4 * 8)
	}
	return wrap(limbs), api.OK
}

// Bytes is the bytes of which Read is a.
func (a Nat) Bytes() string {
	out := make([]byte, (a.Bits()+7)/8)
	for i := range out {
		place := len(out) - 1 - i
		out[i] = byte(a.limbs[place/4] >> (place % 4 * 8))
	}
	return string(out)
}

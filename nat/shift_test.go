package nat

import (
	"fmt"
	"math"
	"math/big"
	"testing"
)

func TestShifts(t *testing.T) { // P102
	for _, a := range some() {
		for _, n := range []int{0, 1, 2, 7, 31, 32, 33, 63, 64, 65, 95, 96, 97, 128, 300, 800} {
			what := fmt.Sprintf("%x, %d", a, n)
			x := from(t, a)
			isNat(t, "Shl "+what, Shl(x, n), new(big.Int).Lsh(a, uint(n)))
			isNat(t, "Shr "+what, Shr(x, n), new(big.Int).Rsh(a, uint(n)))
			isNat(t, "behind "+what, x, a)
		}
	}
}

func TestShiftsBelowZero(t *testing.T) { // P102
	for _, a := range some() {
		for _, n := range []int{-1, -2, -32, -64, -1 << 20, math.MinInt64} {
			isNat(t, "Shl", Shl(from(t, a), n), a)
			isNat(t, "Shr", Shr(from(t, a), n), a)
		}
	}
}

func TestShiftsFar(t *testing.T) { // P102
	for _, n := range []int{1 << 20, 1<<20 + 1, 1<<20 + 32, 1 << 21, 1 << 32, 1 << 62, math.MaxInt64} {
		isNat(t, "Shl", Shl(Of(5), n), new(big.Int).Lsh(big.NewInt(5), 1<<20))
		isNat(t, "Shl of 0", Shl(Nat{}, n), new(big.Int))
		// What has more binary digits than the farthest shift keeps those above it.
		isNat(t, "Shr", Shr(Shl(Of(5), 1<<20), n), big.NewInt(5))
		isNat(t, "Shr of less", Shr(Of(5), n), new(big.Int))
		isNat(t, "Shr of 0", Shr(Nat{}, n), new(big.Int))
	}
	isNat(t, "Shl", Shl(Of(5), 1<<20-1), new(big.Int).Lsh(big.NewInt(5), 1<<20-1))
	isNat(t, "Shr", Shr(Shl(Of(5), 1<<20), 1<<20-1), big.NewInt(10))
}

func TestDigits(t *testing.T) { // P103
	low := new(big.Int).SetUint64(1<<64 - 1)
	for _, a := range some() {
		x := from(t, a)
		isSame(t, "Bits", x.Bits(), a.BitLen())
		isSame(t, "Zeros", x.Zeros(), int(a.TrailingZeroBits()))
		isSame(t, "Low", x.Low(), new(big.Int).And(a, low).Uint64())
	}
}

func TestDigitsOfZero(t *testing.T) { // P103
	for _, zero := range []Nat{{}, Of(0), parse(t, "0"), Mul(Of(0), Of(7)), Shr(Of(1), 1)} {
		isSame(t, "Bits", zero.Bits(), 0)
		isSame(t, "Zeros", zero.Zeros(), 0)
		isSame(t, "Low", zero.Low(), 0)
	}
}

func TestDigitsOfPowers(t *testing.T) { // P103
	for n := range 200 {
		a := Shl(Of(3), n)
		isSame(t, "Bits", a.Bits(), n+2)
		isSame(t, "Zeros", a.Zeros(), n)
		isSame(t, "Low", a.Low(), uint64(3)<<n)
	}
	far := Shl(Of(1), 1<<20)
	isSame(t, "Bits", far.Bits(), 1<<20+1)
	isSame(t, "Zeros", far.Zeros(), 1<<20)
	isSame(t, "Low", Add(far, Of(9)).Low(), 9)
}

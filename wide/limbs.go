package wide

import (
	"cmp"
	"math/bits"
)

// limbs are a magnitude, the least significant limb first, as in api.Wide.
type limbs = [4]uint64

const (
	limbBits = 64
	maxText  = 79 // a sign, and the 78 digits of 2^256 - 1
)

// addLimbs returns x + y modulo 2^256, and what is carried out of it.
func addLimbs(x, y limbs) (limbs, uint64) {
	var sum limbs
	var carry uint64
	for i := range sum {
		sum[i], carry = bits.Add64(x[i], y[i], carry)
	}
	return sum, carry
}

// subLimbs returns x - y modulo 2^256, and 1 if y is greater than x.
func subLimbs(x, y limbs) (limbs, uint64) {
	var rest limbs
	var borrow uint64
	for i := range rest {
		rest[i], borrow = bits.Sub64(x[i], y[i], borrow)
	}
	return rest, borrow
}

// mulLimbs returns the lower and the upper half of x * y.
func mulLimbs(x, y limbs) (limbs, limbs) {
	var out [8]uint64
	for i := range x {
		var carry uint64
		for k := range y {
			out[i+k], carry = timesPlus(x[i], y[k], out[i+k], carry)
		}
		out[i+len(y)] = carry
	}
	return limbs{out[0], out[1], out[2], out[3]}, limbs{out[4], out[5], out[6], out[7]}
}

// timesPlus returns both limbs of x*y + a + b, which always has room in two.
func timesPlus(x, y, a, b uint64) (low, high uint64) {
	high, low = bits.Mul64(x, y)
	low, carryA := bits.Add64(low, a, 0)
	low, carryB := bits.Add64(low, b, 0)
	return low, high + carryA + carryB
}

// cmpLimbs returns -1, 0 or 1.
func cmpLimbs(x, y limbs) int {
	if x == y {
		return 0
	}
	i := len(x) - 1
	for x[i] == y[i] {
		i--
	}
	return cmp.Compare(x[i], y[i])
}

// divLimbs returns the quotient and the remainder of x by y, which is not 0, by long division bit by bit.
func divLimbs(x, y limbs) (quotient, rest limbs) {
	rest = x
	shift := length(x) - length(y)
	if shift < 0 {
		return quotient, rest
	}
	divisor := shifted(y, shift)
	for bit := shift; bit >= 0; bit-- {
		if next, borrow := subLimbs(rest, divisor); borrow == 0 {
			rest = next
			quotient[bit/limbBits] |= 1 << (bit % limbBits)
		}
		divisor = halved(divisor)
	}
	return quotient, rest
}

// length returns the number of bits of x without leading zeros.
func length(x limbs) int {
	for i := len(x) - 1; i >= 0; i-- {
		if x[i] != 0 {
			return i*limbBits + bits.Len64(x[i])
		}
	}
	return 0
}

// shifted returns x * 2^by modulo 2^256, for a by from 0 to 255.
func shifted(x limbs, by int) limbs {
	var out limbs
	skip, rest := by/limbBits, by%limbBits
	for i := skip; i < len(out); i++ {
		out[i] = x[i-skip] << rest
		if i > skip {
			out[i] |= x[i-skip-1] >> (limbBits - rest)
		}
	}
	return out
}

// halved returns half of x, rounded down.
func halved(x limbs) limbs {
	var carry uint64
	for i := len(x) - 1; i >= 0; i-- {
		next := x[i] << (limbBits - 1)
		x[i] = x[i]>>1 | carry
		carry = next
	}
	return x
}

// tenth returns x divided by ten, and the last decimal digit of x.
func tenth(x limbs) (limbs, uint64) {
	var digit uint64
	for i := len(x) - 1; i >= 0; i-- {
		x[i], digit = bits.Div64(digit, x[i], 10)
	}
	return x, digit
}

// tenfold returns 10*x + digit modulo 2^256, and what is carried out of it.
func tenfold(x limbs, digit uint64) (limbs, uint64) {
	for i := range x {
		x[i], digit = timesPlus(x[i], 10, digit, 0)
	}
	return x, digit
}

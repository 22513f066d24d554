// Package wide is layer 1: integers with a sign and 256 bits, which report overflow. See shared/doc/01-wide.md.
package wide

import (
	"cmp"
	"math"
	"strings"

	"parquet/api"
)

// Of returns n.
func Of(n int) api.Wide {
	if n < 0 {
		// Negated without a sign, as the least int has no positive counterpart.
		return api.Wide{Minus: true, L: limbs{-uint64(n)}}
	}
	return api.Wide{L: limbs{uint64(n)}}
}

// Int returns a, or ErrRange if it does not fit into an int.
func Int(a api.Wide) (int, api.Errno) {
	most := uint64(math.MaxInt)
	if a.Minus {
		most++
	}
	low := a.L[0]
	if low > most || a.L != (limbs{low}) {
		return 0, api.ErrRange
	}
	if a.Minus {
		return int(-low), api.OK
	}
	return int(low), api.OK
}

// Neg returns -a.
func Neg(a api.Wide) api.Wide {
	return signed(!a.Minus, a.L)
}

// Sign returns -1, 0 or 1.
func Sign(a api.Wide) int {
	switch {
	case a.L == limbs{}:
		return 0
	case a.Minus:
		return -1
	default:
		return 1
	}
}

// Cmp returns -1 if a is less than b, 1 if it is greater, and 0 if they are equal.
func Cmp(a api.Wide, b api.Wide) int {
	signA, signB := Sign(a), Sign(b)
	if signA != signB {
		return cmp.Compare(signA, signB)
	}
	// Of two negative numbers the one with the greater magnitude is the lesser one.
	return signA * cmpLimbs(a.L, b.L)
}

// Add returns the sum of all arguments, or ErrRange as soon as a partial sum does not fit.
func Add(l ...api.Wide) (api.Wide, api.Errno) {
	return fold(Of(0), l, addTwo)
}

// Sub returns a - b, or ErrRange if it does not fit.
func Sub(a api.Wide, b api.Wide) (api.Wide, api.Errno) {
	return addTwo(a, Neg(b))
}

// Mul returns the product of all arguments, or ErrRange as soon as a partial product does not fit.
func Mul(l ...api.Wide) (api.Wide, api.Errno) {
	return fold(Of(1), l, mulTwo)
}

// DivMod returns q and r such that a = q*b + r, where r is at least 0 and less than the magnitude of b, or ErrArg if b is 0.
func DivMod(a api.Wide, b api.Wide) (api.Wide, api.Wide, api.Errno) {
	if Sign(b) == 0 {
		return api.Wide{}, api.Wide{}, api.ErrArg
	}
	quotient, rest := divLimbs(a.L, b.L)
	if a.Minus && rest != (limbs{}) {
		// One more divisor lifts the remainder above 0. That carries nothing out: where there is a
		// remainder, the divisor is at least 2, and so the quotient is below 2^255.
		quotient, _ = addLimbs(quotient, limbs{1})
		rest, _ = subLimbs(b.L, rest)
	}
	return signed(a.Minus != b.Minus, quotient), signed(false, rest), api.OK
}

// Text returns a in decimal.
func Text(a api.Wide) string {
	if Sign(a) == 0 {
		return "0"
	}
	var text [maxText]byte
	at := len(text)
	for rest := a.L; rest != (limbs{}); {
		var digit uint64
		rest, digit = tenth(rest)
		at--
		text[at] = '0' + byte(digit)
	}
	if a.Minus {
		at--
		text[at] = '-'
	}
	return string(text[at:])
}

// Parse returns the number whose exact decimal text s is; ErrText if there is none, and ErrRange if it does not fit.
func Parse(s string) (api.Wide, api.Errno) {
	digits, minus := strings.CutPrefix(s, "-")
	if !isDecimal(digits) || minus && digits == "0" {
		return api.Wide{}, api.ErrText
	}
	var l limbs
	for _, digit := range digits {
		var over uint64
		l, over = tenfold(l, uint64(digit-'0'))
		if over != 0 {
			return api.Wide{}, api.ErrRange
		}
	}
	return signed(minus, l), api.OK
}

// isDecimal tells whether s is the text of a number without a sign and without a needless 0 in front.
func isDecimal(s string) bool {
	if s == "" || s[0] == '0' && len(s) > 1 {
		return false
	}
	for _, digit := range s {
		if digit < '0' || digit > '9' {
			return false
		}
	}
	return true
}

// signed makes a number of a sign and a magnitude: 0 must never be returned with a Minus.
func signed(minus bool, l limbs) api.Wide {
	return api.Wide{Minus: minus && l != limbs{}, L: l}
}

// fold takes the numbers of l one by one, from left to right, and ends at the first step that does not fit.
func fold(start api.Wide, l []api.Wide, step func(api.Wide, api.Wide) (api.Wide, api.Errno)) (api.Wide, api.Errno) {
	total := start
	for _, a := range l {
		next, e := step(total, a)
		if e != api.OK {
			return api.Wide{}, e
		}
		total = next
	}
	return total, api.OK
}

func addTwo(a api.Wide, b api.Wide) (api.Wide, api.Errno) {
	if a.Minus == b.Minus {
		sum, carry := addLimbs(a.L, b.L)
		if carry != 0 {
			return api.Wide{}, api.ErrRange
		}
		return signed(a.Minus, sum), api.OK
	}
	if rest, borrow := subLimbs(a.L, b.L); borrow == 0 {
		return signed(a.Minus, rest), api.OK
	}
	rest, _ := subLimbs(b.L, a.L)
	return signed(b.Minus, rest), api.OK
}

func mulTwo(a api.Wide, b api.Wide) (api.Wide, api.Errno) {
	low, high := mulLimbs(a.L, b.L)
	if high != (limbs{}) {
		return api.Wide{}, api.ErrRange
	}
	return signed(a.Minus != b.Minus, low), api.OK
}

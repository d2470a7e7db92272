// Package integer implements layer 1: integers of any size as texts.
package integer

import (
	"strconv"
	"strings"

	"luminaire/api"
)

// Check returns OK for canonical integers.
func Check(a api.Int) api.Errno {
	digits, negative := strings.CutPrefix(string(a), "-")
	for i := range len(digits) {
		if digits[i] < '0' || digits[i] > '9' {
			return api.ErrForm
		}
	}
	switch {
	case digits == "":
		return api.ErrForm
	case digits[0] == '0' && (negative || len(digits) > 1):
		return api.ErrForm
	case len(digits) > api.MaxLong:
		return api.ErrLarge
	}
	return api.OK
}

// checkBoth returns the first error of Check for two integers.
func checkBoth(a, b api.Int) api.Errno {
	if e := Check(a); e != api.OK {
		return e
	}
	return Check(b)
}

// Of returns an int as an integer.
func Of(n int) api.Int {
	return api.Int(strconv.Itoa(n))
}

// Small returns an integer as an int.
func Small(a api.Int) (int, api.Errno) {
	if e := Check(a); e != api.OK {
		return 0, e
	}
	n, err := strconv.ParseInt(string(a), 10, 64)
	if err != nil {
		return 0, api.ErrRange
	}
	return int(n), api.OK
}

// Digits returns the number of digits.
func Digits(a api.Int) (int, api.Errno) {
	if e := Check(a); e != api.OK {
		return 0, e
	}
	return len(strings.TrimPrefix(string(a), "-")), api.OK
}

// Sign returns -1, 0 or 1.
func Sign(a api.Int) (int, api.Errno) {
	return Compare(a, "0")
}

// Compare returns -1, 0 or 1 if a is less than, equal to, or greater than b.
func Compare(a, b api.Int) (int, api.Errno) {
	if e := checkBoth(a, b); e != api.OK {
		return 0, e
	}
	return read(a).compare(read(b)), api.OK
}

// Neg returns the opposite number.
func Neg(a api.Int) (api.Int, api.Errno) {
	return Sub("0", a)
}

// Abs returns the magnitude.
func Abs(a api.Int) (api.Int, api.Errno) {
	if e := Check(a); e != api.OK {
		return "", e
	}
	return api.Int(strings.TrimPrefix(string(a), "-")), api.OK
}

// Add returns the sum.
func Add(a, b api.Int) (api.Int, api.Errno) {
	return combine(a, b, number.plus)
}

// Sub returns the difference.
func Sub(a, b api.Int) (api.Int, api.Errno) {
	return combine(a, b, number.minus)
}

// Mul returns the product.
func Mul(a, b api.Int) (api.Int, api.Errno) {
	return combine(a, b, number.times)
}

// Quo returns the quotient, rounded down.
func Quo(a, b api.Int) (api.Int, api.Errno) {
	return split(a, b, number.quotient)
}

// Rem returns the remainder, which has the sign of the divisor.
func Rem(a, b api.Int) (api.Int, api.Errno) {
	return split(a, b, number.remainder)
}

// Gcd returns the greatest common divisor.
func Gcd(a, b api.Int) (api.Int, api.Errno) {
	return combine(a, b, number.gcd)
}

// combine returns the result of an operation on two integers.
func combine(a, b api.Int, operation func(n, m number) number) (api.Int, api.Errno) {
	if e := checkBoth(a, b); e != api.OK {
		return "", e
	}
	return operation(read(a), read(b)).write()
}

// split returns the result of an operation for which the second integer must not be 0.
func split(a, b api.Int, operation func(n, m number) number) (api.Int, api.Errno) {
	if e := checkBoth(a, b); e != api.OK {
		return "", e
	}
	if b == "0" {
		return "", api.ErrZero
	}
	return combine(a, b, operation)
}

package number

import (
	"strings"

	"luminaire/api"
)

const (
	point        = "."
	mostDigits   = 4 // before the point
	mostDecimals = 3
)

// form takes a text apart into the digits before and behind its point, if the text has this form.
type form func(s string) (whole, decimals string, fits bool)

// forms returns the forms of numbers, which are tried one after the other. They permit any numbers of digits.
func forms() []form {
	integer := func(s string) (whole, decimals string, fits bool) {
		return s, "", areDigits(s) && (s == "0" || s[0] != '0')
	}
	pointed := func(s string) (whole, decimals string, fits bool) {
		before, behind, _ := strings.Cut(s, point)
		whole, _, fits = integer(before)
		return whole, behind, fits && areDigits(behind) && behind[len(behind)-1] != '0'
	}
	return []form{integer, pointed}
}

// areDigits reports whether a text consists of one or more digits.
func areDigits(s string) bool {
	for i := range len(s) {
		if s[i] < '0' || s[i] > '9' {
			return false
		}
	}
	return s != ""
}

// value returns the thousandths of a number with these digits.
func value(whole, decimals string) (int, api.Errno) {
	if len(whole) > mostDigits || len(decimals) > mostDecimals {
		return 0, api.ErrRange
	}
	n := 0
	digits := whole + decimals + strings.Repeat("0", mostDecimals-len(decimals))
	for i := range len(digits) {
		n = 10*n + int(digits[i]-'0')
	}
	if n == 0 {
		return 0, api.ErrRange
	}
	return n, api.OK
}

package level

import (
	"strconv"
	"strings"

	"luminaire/api"
)

const (
	full     = "full"
	most     = 3           // digits before the point, and behind it
	all      = 100         // the percent of MaxLevel
	allParts = all * 1_000 // the same with as many decimals as there may be
)

// fold hands the digits of a text to a function, one after another, with what it has made of those before.
func fold(digits string, n int, step func(n, digit int) int) int {
	for i := range len(digits) {
		n = step(n, int(digits[i]-'0'))
	}
	return n
}

// areDigits reports whether a text consists of one to three digits.
func areDigits(text string) bool {
	for i := range len(text) {
		if text[i] < '0' || text[i] > '9' {
			return false
		}
	}
	return text != "" && len(text) <= most
}

// Percent returns the level of a percentage.
func Percent(text string) (int, api.Errno) {
	if text == full {
		return api.MaxLevel, api.OK
	}
	whole, decimals, pointed := strings.Cut(text, ".")
	switch {
	case !areDigits(whole) || pointed && !areDigits(decimals):
		return 0, api.ErrForm
	case len(whole) > 1 && whole[0] == '0':
		return 0, api.ErrForm
	}
	n := parts(whole, decimals)
	if n > allParts {
		return 0, api.ErrRange
	}
	return nearest(n*api.MaxLevel, allParts), api.OK
}

// parts returns a percentage in thousandths of a percent.
func parts(whole, decimals string) int {
	zeros := strings.Repeat("0", most-len(decimals))
	decimal := func(n, digit int) int { return 10*n + digit }
	return fold(decimals+zeros, fold(whole, 0, decimal), decimal)
}

// Text returns the shortest percentage of a level.
func Text(v int) (string, api.Errno) {
	if e := Check(v); e != api.OK {
		return "", e
	}
	if v == api.MaxLevel {
		return full, api.OK
	}
	text := ""
	for decimals := range most + 1 {
		text = least(v, decimals)
		// It is found with three decimals at the latest: a thousandth of a percent is less than the width of a level.
		if back, e := Percent(text); e == api.OK && back == v {
			break
		}
	}
	return text, api.OK
}

// least returns the least percentage with a number of decimals whose level is at least v.
func least(v, decimals int) string {
	unit := 1
	for range decimals {
		unit *= 10
	}
	// It is at least v - 1/2 of MaxLevel: the percentage is a quotient that is rounded up.
	n := ((2*v-1)*all*unit + 2*api.MaxLevel - 1) / (2 * api.MaxLevel)
	whole := strconv.Itoa(n / unit)
	if decimals == 0 {
		return whole
	}
	return whole + "." + strconv.Itoa(unit + n%unit)[1:] // the 1 of the unit keeps the zeros in front
}

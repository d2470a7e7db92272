package integer

import (
	"cmp"
	"iter"
	"math/bits"
	"slices"
	"strconv"
)

const (
	wordDigits = 9
	base       = 1_000_000_000
)

// words is a natural number in words of nine decimal digits, the lowest word first.
// The top word is not 0, so equal numbers have equal words, and 0 has none.
type words []uint32

// readWords reads decimal digits.
func readWords(digits string) words {
	w := make(words, 0, len(digits)/wordDigits+1)
	for end := len(digits); end > 0; end -= wordDigits {
		w = append(w, readWord(digits[max(end-wordDigits, 0):end]))
	}
	return w.trim()
}

// readWord reads at most nine digits.
func readWord(digits string) uint32 {
	word := uint32(0)
	for i := range len(digits) {
		word = word*10 + uint32(digits[i]-'0')
	}
	return word
}

// text writes the decimal digits.
func (w words) text() string {
	if len(w) == 0 {
		return "0"
	}
	out := make([]byte, 0, len(w)*wordDigits)
	for i, word := range w.backwards() {
		if i == len(w)-1 {
			out = strconv.AppendUint(out, word, 10)
			continue
		}
		digits := wordText(word)
		out = append(out, digits[:]...)
	}
	return string(out)
}

// wordText writes a word with all nine digits.
func wordText(word uint64) [wordDigits]byte {
	var digits [wordDigits]byte
	for i := range wordDigits {
		digits[wordDigits-1-i] = '0' + byte(word%10)
		word /= 10
	}
	return digits
}

// backwards visits the places and words from the top down.
func (w words) backwards() iter.Seq2[int, uint64] {
	return func(yield func(int, uint64) bool) {
		for i := len(w) - 1; i >= 0; i-- {
			if !yield(i, uint64(w[i])) {
				return
			}
		}
	}
}

// trim drops zeros at the top.
func (w words) trim() words {
	for i, word := range w.backwards() {
		if word != 0 {
			return w[:i+1]
		}
	}
	return nil
}

// compare returns -1, 0 or 1 if w is less than, equal to, or greater than v.
func (w words) compare(v words) int {
	if len(w) != len(v) {
		return cmp.Compare(len(w), len(v))
	}
	for i, word := range w.backwards() {
		if other := uint64(v[i]); word != other {
			return cmp.Compare(word, other)
		}
	}
	return 0
}

// plus returns the sum.
func (w words) plus(v words) words {
	if len(w) < len(v) {
		w, v = v, w
	}
	sum := make(words, len(w)+1)
	carry := uint32(0)
	for i, word := range w {
		carry += word
		if i < len(v) {
			carry += v[i]
		}
		sum[i] = carry % base
		carry /= base
	}
	sum[len(w)] = carry
	return sum.trim()
}

// minus returns the difference, for v that is at most w.
func (w words) minus(v words) words {
	difference := slices.Clone(w)
	difference.decrease(v, 1)
	return difference.trim()
}

// times returns the product.
func (w words) times(v words) words {
	product := make(words, len(w)+len(v))
	for i, factor := range w {
		carry := uint64(0)
		for j, word := range v {
			carry += uint64(product[i+j]) + uint64(factor)*uint64(word)
			product[i+j] = uint32(carry % base)
			carry /= base
		}
		product[i+len(v)] = uint32(carry)
	}
	return product.trim()
}

// decrease subtracts v times a factor in place, for a product that is at most w.
func (w words) decrease(v words, factor uint64) {
	borrow := uint64(0)
	for i, word := range v {
		borrow += uint64(word) * factor
		w[i], borrow = take(w[i], borrow)
	}
	for i := len(v); borrow > 0; i++ {
		w[i], borrow = take(w[i], borrow)
	}
}

// take subtracts from a word what it can, and returns what is to be subtracted from the words above.
func take(word uint32, amount uint64) (uint32, uint64) {
	rest := int64(word) - int64(amount%base)
	if rest < 0 {
		return uint32(rest + base), amount/base + 1
	}
	return uint32(rest), amount / base
}

// divide returns the quotient, rounded down, and the remainder, for v that is not 0.
func (w words) divide(v words) (quotient, remainder words) {
	if w.compare(v) < 0 {
		return nil, w
	}
	if len(v) == 1 {
		return w.divideByWord(uint64(v[0]))
	}
	rest := append(slices.Clone(w), 0)
	quotient = make(words, len(w)-len(v)+1)
	for i := range quotient.backwards() {
		quotient[i] = rest[i : i+len(v)+1].takeOut(v)
	}
	return quotient.trim(), rest.trim()
}

func (w words) divideByWord(divisor uint64) (quotient, remainder words) {
	quotient = make(words, len(w))
	rest := uint64(0)
	for i, word := range w.backwards() {
		rest = rest*base + word
		quotient[i] = uint32(rest / divisor)
		rest %= divisor
	}
	return quotient.trim(), words{uint32(rest)}.trim()
}

// takeOut subtracts v in place as often as possible, and returns how often, which must be less than the base.
// v has at least two words, and w one word more than v.
func (w words) takeOut(v words) uint32 {
	n := len(v)
	// The guess from the top words is never too high, and too low by few: the divisor is at least the base.
	high, low := bits.Mul64(uint64(w[n]), base*base)
	low, carry := bits.Add64(low, uint64(w[n-1])*base+uint64(w[n-2]), 0)
	times, _ := bits.Div64(high+carry, low, uint64(v[n-1])*base+uint64(v[n-2])+1)
	w.decrease(v, times)
	for w.trim().compare(v) >= 0 {
		w.decrease(v, 1)
		times++
	}
	return uint32(times)
}

// gcd returns the greatest common divisor.
func (w words) gcd(v words) words {
	for len(w) > 2 || len(v) > 2 {
		if len(v) == 0 {
			return w
		}
		_, rest := w.divide(v)
		w, v = v, rest
	}
	n, m := w.small(), v.small()
	for m > 0 {
		n, m = m, n%m
	}
	return words{uint32(n % base), uint32(n / base)}.trim()
}

// small returns a number of at most two words.
func (w words) small() uint64 {
	n := uint64(0)
	for _, word := range w.backwards() {
		n = n*base + word
	}
	return n
}

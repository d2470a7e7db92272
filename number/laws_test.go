package number_test

import (
	"math/rand"
	"regexp"
	"strings"
	"testing"

	"luminaire/api"
	"luminaire/number"
)

const greatest = 9999999 // the thousandths of the greatest number

// must returns the number with some thousandths.
func must(t *testing.T, n int) string {
	t.Helper()
	s, e := number.Of(n)
	if e != api.OK {
		t.Fatalf("Of(%d): got %d", n, e)
	}
	return s
}

// visitThousandths hands the first and the last thousandths to a function, and many of those between.
func visitThousandths(visit func(n int)) {
	for n := 1; n <= 20000; n++ {
		visit(n)
		visit(greatest + 1 - n)
	}
	for n := 20001; n < greatest-20000; n += 37 {
		visit(n)
	}
}

func TestThousandthsComeBack(t *testing.T) {
	texts := map[string]int{}
	visitThousandths(func(n int) {
		s := must(t, n)
		if got, e := number.Thousandths(s); got != n || e != api.OK {
			t.Errorf("Thousandths(%q): got %d, %d, want %d", s, got, e, n)
		}
		if e := number.Check(s); e != api.OK {
			t.Errorf("Check(%q): got %d", s, e)
		}
		if other, found := texts[s]; found {
			t.Errorf("%d and %d are both those of %q", n, other, s)
		}
		texts[s] = n
	})
}

// TestAllShortTexts compares the errors of all short texts of some bytes with what patterns say.
func TestAllShortTexts(t *testing.T) {
	form := regexp.MustCompile(`^(0|[1-9][0-9]*)(\.[0-9]*[1-9])?$`)
	inRange := regexp.MustCompile(`^[0-9]{1,4}(\.[0-9]{1,3})?$`)
	var visit func(s string)
	visit = func(s string) {
		want := api.OK
		switch {
		case !form.MatchString(s):
			want = api.ErrForm
		case s == "0" || !inRange.MatchString(s):
			want = api.ErrRange
		}
		if e := number.Check(s); e != want {
			t.Errorf("Check(%q): got %d, want %d", s, e, want)
		}
		n, e := number.Thousandths(s)
		if e != want || (n == 0) != (e != api.OK) {
			t.Errorf("Thousandths(%q): got %d, %d, want %d", s, n, e, want)
		}
		if e == api.OK && must(t, n) != s {
			t.Errorf("Of(%d): got %q, want %q", n, must(t, n), s)
		}
		if len(s) < 7 {
			for _, b := range []string{"0", "1", "9", ".", "-"} {
				visit(s + b)
			}
		}
	}
	visit("")
}

func TestOrderIsThatOfThousandths(t *testing.T) {
	r := rand.New(rand.NewSource(1))
	for range 20000 {
		n := 1 + r.Intn(greatest)
		m := max(1, min(greatest, n+r.Intn(2001)-1000))
		want := 0
		if n < m {
			want = -1
		} else if n > m {
			want = 1
		}
		a, b := must(t, n), must(t, m)
		if got, e := number.Compare(a, b); got != want || e != api.OK {
			t.Errorf("Compare(%q, %q): got %d, %d, want %d", a, b, got, e, want)
		}
		if e := number.Ascending([]string{a, b}); (e == api.OK) != (want < 0) {
			t.Errorf("Ascending of %q and %q: got %d", a, b, e)
		}
	}
}

// decimals returns how many decimals a number has.
func decimals(s string) int {
	_, behind, _ := strings.Cut(s, ".")
	return len(behind)
}

// search looks for the number between two others by trying all of them.
func search(t *testing.T, low, high int) string {
	best := ""
	for n := low + 1; n < high; n++ {
		if s := must(t, n); best == "" || decimals(s) < decimals(best) {
			best = s
		}
	}
	return best
}

func TestBetweenIsTheLeastWithFewestDecimals(t *testing.T) {
	r := rand.New(rand.NewSource(2))
	for range 3000 {
		low := 1 + r.Intn(greatest-1)
		if r.Intn(2) == 0 {
			low = 1 + r.Intn(3000)
		}
		high := min(greatest, low+1+r.Intn([]int{3, 30, 300, 3000}[r.Intn(4)]))
		a, b := must(t, low), must(t, high)
		want, wantE := search(t, low, high), api.OK
		if want == "" {
			wantE = api.ErrEmpty
		}
		got, e := number.Between(a, b)
		if got != want || e != wantE {
			t.Errorf("Between(%q, %q): got %q, %d, want %q, %d", a, b, got, e, want, wantE)
		}
		if e == api.OK && number.Ascending([]string{a, got, b}) != api.OK {
			t.Errorf("Between(%q, %q): %q is not between", a, b, got)
		}
	}
}

func TestAfterIsTheNextWithoutDecimals(t *testing.T) {
	visitThousandths(func(n int) {
		s := must(t, n)
		next := n + 1
		for next%1000 != 0 {
			next++
		}
		want, wantE := number.Of(next)
		if got, e := number.After(s); got != want || e != wantE {
			t.Errorf("After(%q): got %q, %d, want %q, %d", s, got, e, want, wantE)
		}
	})
}

// TestAnyTextsEnd hands texts of random bytes to all functions.
func TestAnyTextsEnd(t *testing.T) {
	r := rand.New(rand.NewSource(3))
	const some = "0123456789....-+ x\x00\xff"
	text := func() string {
		s := make([]byte, r.Intn(9))
		for i := range s {
			s[i] = some[r.Intn(len(some))]
		}
		return string(s)
	}
	for range 50000 {
		a, b := text(), text()
		want := number.Check(a)
		if want == api.OK {
			want = number.Check(b)
		}
		order, e := number.Compare(a, b)
		if e != want || e != api.OK && order != 0 {
			t.Errorf("Compare(%q, %q): got %d, %d, want %d", a, b, order, e, want)
		}
		between, f := number.Between(a, b)
		if want != api.OK && f != want || f != api.OK && between != "" {
			t.Errorf("Between(%q, %q): got %q, %d, want %d", a, b, between, f, want)
		}
		if (order < 0) != (want == api.OK && f != api.ErrOrder) {
			t.Errorf("Compare(%q, %q) is %d, but Between has the error %d", a, b, order, f)
		}
	}
}

package curve_test

import (
	"cmp"
	"math"
	"math/big"
	"math/rand"
	"slices"
	"strings"
	"testing"

	"luminaire/api"
	"luminaire/curve"
	"luminaire/ratio"
)

func toBig(v api.Rat) *big.Rat {
	n, _ := new(big.Rat).SetString(string(v))
	return n
}

// at returns the value of a curve as the document defines it.
func at(c []api.Point, v *big.Rat) *big.Rat {
	for i, p := range c[1:] {
		before := c[i]
		if v.Cmp(big.NewRat(int64(p.X), 1)) > 0 {
			continue
		}
		value := new(big.Rat).Sub(v, big.NewRat(int64(before.X), 1))
		value.Mul(value, big.NewRat(int64(p.Y-before.Y), int64(p.X-before.X)))
		return value.Add(value, big.NewRat(int64(before.Y), 1))
	}
	return nil
}

// sampleCurve returns a curve: some have points next to each other, some only the least and the greatest Y, and some
// points that lie on the line of those before.
func sampleCurve(r *rand.Rand) []api.Point {
	among := []int{20, 300, full + 1}[r.Intn(3)]
	xs := []int{0, full}
	for range r.Intn(api.MaxPoints - 1) {
		xs = append(xs, r.Intn(among))
	}
	slices.Sort(xs)
	var c []api.Point
	for _, x := range slices.Compact(xs) {
		p := api.Point{X: x, Y: []int{0, 7, full - 1, full, r.Intn(full + 1), r.Intn(full + 1)}[r.Intn(6)]}
		if n := len(c); n > 1 && r.Intn(2) == 0 {
			way, rise := c[n-1].X-c[n-2].X, c[n-1].Y-c[n-2].Y
			if y := c[n-1].Y + rise*(x-c[n-1].X)/way; 0 <= y && y <= full {
				p.Y = y
			}
		}
		c = append(c, p)
	}
	return c
}

// sampleRising returns a curve that ascends from 0 to MaxLevel.
func sampleRising(r *rand.Rand) []api.Point {
	n := r.Intn(api.MaxPoints - 1)
	coordinates := func() []int {
		l := []int{0, full}
		apart := []int{1, 2, 327}[r.Intn(3)]
		for _, x := range r.Perm(200)[:n] {
			l = append(l, 1+x*apart)
		}
		slices.Sort(l)
		return l
	}
	xs, ys := coordinates(), coordinates()
	var c []api.Point
	for i, x := range xs {
		c = append(c, api.Point{X: x, Y: ys[i]})
	}
	return c
}

// sampleNumbers returns numbers from 0 to MaxLevel: the X of a curve, numbers near them, and others.
func sampleNumbers(r *rand.Rand, c []api.Point) []api.Rat {
	var l []api.Rat
	for _, p := range c {
		den := 1 + r.Intn(1000)
		for _, num := range []int{p.X*den - 1, p.X * den, p.X*den + 1} {
			v, _ := ratio.Part(max(0, min(num, full*den)), den)
			l = append(l, v)
		}
	}
	for range 20 {
		den := 1 + r.Intn([]int{10, 70000, 1 << 40}[r.Intn(3)])
		v, _ := ratio.Part(r.Intn(full*den+1), den)
		l = append(l, v)
	}
	return l
}

func TestAtAgainstBig(t *testing.T) {
	r := rand.New(rand.NewSource(1))
	for range 300 {
		c := sampleCurve(r)
		for _, v := range sampleNumbers(r, c) {
			got, e := curve.At(c, v)
			if want := at(c, toBig(v)).RatString(); string(got) != want || e != api.OK {
				t.Errorf("At(%v, %q): got %q, %d, want %s", c, v, got, e, want)
			}
		}
	}
}

func TestThroughAgainstBig(t *testing.T) {
	r := rand.New(rand.NewSource(2))
	for range 60 {
		var l [][]api.Point
		for range r.Intn(api.MaxCurves + 1) {
			l = append(l, sampleCurve(r))
		}
		for _, v := range sampleNumbers(r, curve.Straight()) {
			want := toBig(v)
			for _, c := range l {
				want = at(c, want)
			}
			if got, e := curve.Through(l, v); string(got) != want.RatString() || e != api.OK {
				t.Errorf("Through(%v, %q): got %q, %d, want %s", l, v, got, e, want.RatString())
			}
		}
	}
}

// digits returns how many digits the numerator or the denominator of a number has, whichever has more.
func digits(v *big.Rat) int {
	return max(len(new(big.Int).Abs(v.Num()).String()), len(v.Denom().String()))
}

// checkLong compares the value at a number with the exact one, which is returned if it is short enough to be written.
// It reports whether it is.
func checkLong(t *testing.T, c []api.Point, v *big.Rat) bool {
	t.Helper()
	exact := at(c, v)
	want, wantE := api.Rat(exact.RatString()), api.OK
	if digits(exact) > api.MaxLong {
		want, wantE = "", api.ErrLarge
	}
	if got, e := curve.At(c, api.Rat(v.RatString())); got != want || e != wantE {
		t.Errorf("At(%v, %.20s..): got %.20q.. (%d bytes), %d, want %.20q.. (%d bytes), %d", c, v.RatString(), got, len(got), e, want, len(want), wantE)
	}
	return wantE == api.OK
}

// sampleLong returns a number from 0 to MaxLevel whose denominator has about as many digits as there may be.
func sampleLong(r *rand.Rand) *big.Rat {
	longest := new(big.Int).Exp(big.NewInt(10), big.NewInt(api.MaxLong), nil)
	den := new(big.Int).Rand(r, longest.Div(longest, big.NewInt(int64(1+r.Intn(3*full)))))
	den.Add(den, big.NewInt(full))
	if r.Intn(40) == 0 { // Euclid's algorithm takes long for such a number
		return new(big.Rat).SetFrac(new(big.Int).Rand(r, den), den)
	}
	// A bit more than a short fraction, whose denominator may have divisors in common with a slope.
	unit := []int{1, 2, 3, 10, full, full / 3, full - 20000}[r.Intn(7)]
	short := big.NewRat(int64(r.Intn(full)*unit+r.Intn(unit)), int64(unit))
	more := []int{1, 2, 3, 40000, full / 5, full}[r.Intn(6)]
	return short.Add(short, new(big.Rat).SetFrac(big.NewInt(int64(more)), den.Mul(den, big.NewInt(full)).Div(den, big.NewInt(int64(1+r.Intn(full))))))
}

// TestAtLongNumbers takes numbers with so many digits that some values have too many, and others just not.
func TestAtLongNumbers(t *testing.T) {
	r := rand.New(rand.NewSource(3))
	found := map[bool]int{}
	for range 600 {
		c := sampleCurve(r)
		if r.Intn(2) == 0 {
			c = list(curve.Straight(), points(0, full, full, 0), points(0, 1, full, 0), points(0, 0, full, 1), example())[r.Intn(5)]
		}
		v := sampleLong(r)
		if r.Intn(2) == 0 {
			v.Sub(big.NewRat(full, 1), v)
		}
		if digits(v) <= api.MaxLong {
			found[checkLong(t, c, v)]++
		}
	}
	if found[true] < 50 || found[false] < 50 {
		t.Errorf("%d values could be written, and %d could not", found[true], found[false])
	}
}

// TestCancelledValues takes values that are short enough only because they are reduced.
func TestCancelledValues(t *testing.T) {
	nines := api.Rat(strings.Repeat("9", api.MaxLong))
	third := api.Rat(strings.Repeat("3", api.MaxLong))
	zeros := api.Rat(strings.Repeat("0", api.MaxLong-1))
	odd := "1" + zeros[1:] + "1" // has no divisor in common with MaxLevel
	down := points(0, full, full, 0)
	for _, test := range []struct {
		c       []api.Point
		v, want api.Rat
		e       api.Errno
	}{
		{curve.Straight(), "1" + zeros + "/" + nines, "1" + zeros + "/" + nines, api.OK},
		{curve.Straight(), "1/1" + zeros, "1/1" + zeros, api.OK},
		{points(0, 5, full, 5), "1" + zeros + "/" + nines, "5", api.OK},
		// Three times a number.
		{example(), "1/" + nines, "1/" + third, api.OK},
		{example(), "1/1" + zeros, "3/1" + zeros, api.OK},
		{example(), "4" + zeros + "/" + nines, "4" + zeros + "/" + third, api.OK},
		{example(), nines + "/1" + zeros, "", api.ErrLarge},
		// A third of it.
		{points(0, 0, 3, 1, full, 1), nines[1:] + "/1" + zeros, third[1:] + "/1" + zeros, api.OK},
		{points(0, 0, 3, 1, full, 1), "1" + zeros + "/" + nines, "", api.ErrLarge},
		{points(0, 0, full, 1), "1/1" + zeros, "", api.ErrLarge},
		{points(0, 0, full, 1), "65535/" + odd, "1/" + odd, api.OK},
		// What is missing to MaxLevel, or a part of it.
		{down, "65535/" + odd, "", api.ErrLarge},
		{points(0, 1, full, 0), "65535/" + odd, "1" + zeros + "/" + odd, api.OK},
		{points(0, 1, full, 0), "1/" + odd, "", api.ErrLarge},
		{points(0, 2, full, 0), "65535/" + odd, "2" + zeros + "/" + odd, api.OK},
	} {
		if got, e := curve.At(test.c, test.v); got != test.want || e != test.e {
			t.Errorf("At(%v, %.20q..): got %.20q.., %d, want %.20q.., %d", test.c, test.v, got, e, test.want, test.e)
		}
	}
}

func TestValuesLieBetweenNeighbours(t *testing.T) {
	r := rand.New(rand.NewSource(4))
	for range 100 {
		c := sampleCurve(r)
		for _, v := range sampleNumbers(r, c) {
			value, e := curve.At(c, v)
			i := 1
			for order(t, v, ratio.Whole(c[i].X)) > 0 {
				i++
			}
			low, high := ratio.Whole(min(c[i-1].Y, c[i].Y)), ratio.Whole(max(c[i-1].Y, c[i].Y))
			if e != api.OK || order(t, value, low) < 0 || order(t, value, high) > 0 {
				t.Errorf("At(%v, %q): got %q, %d, not from %q to %q", c, v, value, e, low, high)
			}
		}
	}
}

func order(t *testing.T, a, b api.Rat) int {
	t.Helper()
	order, e := ratio.Compare(a, b)
	if e != api.OK {
		t.Fatalf("Compare(%q, %q): got %d", a, b, e)
	}
	return order
}

func TestInverseLeadsBack(t *testing.T) {
	r := rand.New(rand.NewSource(5))
	for range 100 {
		c := sampleRising(r)
		if r.Intn(2) == 0 {
			c, _ = curve.Flip(c)
		}
		inverse, e := curve.Inverse(c)
		if again, f := curve.Inverse(inverse); !slices.Equal(again, c) || e != api.OK || f != api.OK {
			t.Errorf("Inverse of %v, which is that of %v, %d: got %v, %d", inverse, c, e, again, f)
		}
		for _, v := range append(sampleNumbers(r, c), sampleNumbers(r, inverse)...) {
			for _, l := range [][][]api.Point{list(c, inverse), list(inverse, c)} {
				if got, e := curve.Through(l, v); got != v || e != api.OK {
					t.Errorf("Through(%v, %q): got %q, %d", l, v, got, e)
				}
			}
		}
	}
}

// TestInverseOfAnyCurve compares the error with what the document requires of slopes and ends.
func TestInverseOfAnyCurve(t *testing.T) {
	r := rand.New(rand.NewSource(6))
	for range 5000 {
		c := sampleCurve(r)
		if r.Intn(2) == 0 {
			c = sampleRising(r)
			c[r.Intn(len(c))].Y += r.Intn(2) // may be a level too high, or the same as the next one
		}
		slope, e := curve.Slope(c)
		first, last := c[0].Y, c[len(c)-1].Y
		want := api.ErrState
		switch {
		case curve.Check(c) != api.OK:
			want = curve.Check(c)
		case slope == 1 && first == 0 && last == full, slope == -1 && first == full && last == 0:
			want = api.OK
		}
		if inverse, f := curve.Inverse(c); f != want || e != api.OK && f != e || f == api.OK && curve.Check(inverse) != api.OK {
			t.Errorf("Inverse(%v): got %v, %d, want %d", c, inverse, f, want)
		}
	}
}

func TestFlippingMirrors(t *testing.T) {
	r := rand.New(rand.NewSource(7))
	for range 100 {
		c := sampleCurve(r)
		flipped, e := curve.Flip(c)
		if again, f := curve.Flip(flipped); !slices.Equal(again, c) || e != api.OK || f != api.OK {
			t.Errorf("Flip of %v, which is that of %v, %d: got %v, %d", flipped, c, e, again, f)
		}
		for _, v := range sampleNumbers(r, c) {
			value, _ := curve.At(c, v)
			mirrored, _ := ratio.Sub(ratio.Whole(full), value)
			if got, e := curve.At(flipped, v); got != mirrored || e != api.OK {
				t.Errorf("At(%v, %q): got %q, %d, want %q", flipped, v, got, e, mirrored)
			}
		}
	}
}

// withMore returns a curve with some points more that lie on its segments.
func withMore(r *rand.Rand, c []api.Point) []api.Point {
	var more []api.Point
	for i, p := range c[1:] {
		before := c[i]
		more = append(more, before)
		for x := before.X + 1; x < p.X && x < before.X+300 && len(more)+len(c) < api.MaxPoints; x++ {
			if rise := (x - before.X) * (p.Y - before.Y); rise%(p.X-before.X) == 0 && r.Intn(2) == 0 {
				more = append(more, api.Point{X: x, Y: before.Y + rise/(p.X-before.X)})
			}
		}
	}
	return append(more, c[len(c)-1])
}

func TestTidyingChangesNoValue(t *testing.T) {
	r := rand.New(rand.NewSource(8))
	shorter := 0
	for range 300 {
		c := sampleCurve(r)
		if len(c) < 8 {
			c = withMore(r, c)
		}
		tidy, e := curve.Tidy(c)
		if again, f := curve.Tidy(tidy); !slices.Equal(again, tidy) || curve.Check(tidy) != api.OK || e != api.OK || f != api.OK {
			t.Errorf("Tidy(%v): got %v, %d, and of this %v, %d", c, tidy, e, again, f)
		}
		if len(tidy) < len(c) {
			shorter++
		}
		for _, v := range sampleNumbers(r, c) {
			value, _ := curve.At(c, v)
			if got, e := curve.At(tidy, v); got != value || e != api.OK {
				t.Errorf("At(%v, %q): got %q, %d, want %q", tidy, v, got, e, value)
			}
		}
		checkNeeded(t, tidy)
	}
	if shorter < 50 {
		t.Errorf("only %d curves became shorter", shorter)
	}
}

// checkNeeded checks that a curve has another value without any of its points.
func checkNeeded(t *testing.T, c []api.Point) {
	t.Helper()
	for i := 1; i < len(c)-1; i++ {
		without := slices.Delete(slices.Clone(c), i, i+1)
		if got, e := curve.At(without, ratio.Whole(c[i].X)); got == ratio.Whole(c[i].Y) || e != api.OK {
			t.Errorf("%v does not need %v", c, c[i])
		}
	}
}

func TestRisingCurvesKeepTheOrder(t *testing.T) {
	r := rand.New(rand.NewSource(9))
	for range 100 {
		c := sampleRising(r)
		if slope, e := curve.Slope(c); slope != 1 || e != api.OK {
			t.Errorf("Slope(%v): got %d, %d", c, slope, e)
		}
		l := sampleNumbers(r, c)
		slices.SortFunc(l, func(a, b api.Rat) int { return toBig(a).Cmp(toBig(b)) })
		l = slices.Compact(l)
		for i, v := range l[1:] {
			low, _ := curve.At(c, l[i])
			high, _ := curve.At(c, v)
			if order(t, low, high) >= 0 {
				t.Errorf("%v has the values %q at %q and %q at %q", c, low, l[i], high, v)
			}
		}
	}
}

// TestSlopeOfAnyCurve compares the slope with the order of all pairs of points.
func TestSlopeOfAnyCurve(t *testing.T) {
	r := rand.New(rand.NewSource(10))
	for range 3000 {
		n := 2 + r.Intn(4)
		c := make([]api.Point, n)
		for i := range c {
			c[i] = api.Point{X: i, Y: r.Intn(5)}
		}
		c[n-1].X = full
		found := map[int]bool{}
		for i := range c {
			for _, p := range c[i+1:] {
				found[cmp.Compare(p.Y, c[i].Y)] = true
			}
		}
		want := 0
		for direction := range found {
			if len(found) == 1 {
				want = direction
			}
		}
		if got, e := curve.Slope(c); got != want || e != api.OK {
			t.Errorf("Slope(%v): got %d, %d, want %d", c, got, e, want)
		}
	}
}

// anyInt returns an int that may be of any size, and is often next to a limit.
func anyInt(r *rand.Rand) int {
	return []int{0, 1, -1, 2, 300, full - 1, full, full + 1, math.MinInt, math.MaxInt, r.Intn(full), -r.Intn(full)}[r.Intn(12)]
}

// TestAnyArgumentsEnd hands any points to all functions: they end, with nothing beside an error.
func TestAnyArgumentsEnd(t *testing.T) {
	r := rand.New(rand.NewSource(11))
	numbers := []api.Rat{"", "0", "1", "-1", "1/2", "65535", "65536", "131069/2", "2/4", "x", "1/", "/", "-"}
	for range 30000 {
		c := make([]api.Point, r.Intn([]int{3, 5, 20}[r.Intn(3)]))
		for i := range c {
			c[i] = api.Point{X: anyInt(r), Y: anyInt(r)}
		}
		if r.Intn(2) == 0 && len(c) > 1 {
			c[0].X, c[len(c)-1].X = 0, full
		}
		want := curve.Check(c)
		v := numbers[r.Intn(len(numbers))]
		value, e := curve.At(c, v)
		if through, f := curve.Through(list(c), v); through != value || f != e || want != api.OK && e != want || (value == "") != (e != api.OK) {
			t.Errorf("At(%v, %q): got %q, %d, and Through %q, %d", c, v, value, e, through, f)
		}
		if slope, e := curve.Slope(c); e != want || e != api.OK && slope != 0 {
			t.Errorf("Slope(%v): got %d, %d, want %d", c, slope, e, want)
		}
		for name, change := range changes() {
			changed, e := change(c)
			if (len(changed) == 0) != (e != api.OK) || want != api.OK && e != want || e == api.OK && curve.Check(changed) != api.OK {
				t.Errorf("%s(%v): got %v, %d, want %d", name, c, changed, e, want)
			}
		}
	}
}

package profile_test

import (
	"math"
	"math/big"
	"math/rand"
	"reflect"
	"slices"
	"testing"

	"luminaire/api"
	"luminaire/curve"
	"luminaire/level"
	"luminaire/profile"
	"luminaire/ratio"
)

// shape returns the points of the curve of a feature.
func shape(f api.Feature, curves [][]api.Point) []api.Point {
	if f.Curve == 0 {
		return straight()
	}
	return curves[f.Curve-1]
}

// raw returns the raw value of a feature as the document defines it.
func raw(f api.Feature, curves [][]api.Point, v *big.Rat) int {
	whole := func(n int) *big.Rat { return big.NewRat(int64(n), 1) }
	if v.Sign() < 0 {
		v = whole(0)
	} else if v.Cmp(whole(full)) > 0 {
		v = whole(full)
	}
	c := shape(f, curves)
	i := 1
	for v.Cmp(whole(c[i].X)) > 0 {
		i++
	}
	value := new(big.Rat).Sub(v, whole(c[i-1].X))
	value.Mul(value, big.NewRat(int64(c[i].Y-c[i-1].Y), int64(c[i].X-c[i-1].X)))
	value.Add(value, whole(c[i-1].Y))
	value.Mul(value, big.NewRat(int64(f.High-f.Low), full))
	value.Add(value, big.NewRat(1, 2))
	return f.Low + int(new(big.Int).Div(value.Num(), value.Denom()).Int64())
}

// sampleCurves returns some curves. A few are steep, and a few rest.
func sampleCurves(r *rand.Rand) [][]api.Point {
	var l [][]api.Point
	for range 1 + r.Intn(api.MaxCurves) {
		xs := []int{0, full}
		for range r.Intn(6) {
			xs = append(xs, r.Intn([]int{10, 2000, full}[r.Intn(3)]))
		}
		slices.Sort(xs)
		var c []api.Point
		for _, x := range slices.Compact(xs) {
			c = append(c, api.Point{X: x, Y: []int{0, full, 5, r.Intn(full + 1), r.Intn(full + 1)}[r.Intn(5)]})
		}
		l = append(l, c)
	}
	return l
}

// sampleFeature returns a feature without its place in a profile.
func sampleFeature(r *rand.Rand, curves [][]api.Point) api.Feature {
	f := api.Feature{Bits: 8, High: 255, Curve: r.Intn(len(curves) + 1)}
	if r.Intn(2) == 0 {
		f.Bits, f.High = 16, full
	}
	if r.Intn(2) == 0 {
		f.Low = r.Intn(f.High + 1)
		f.High = f.Low + r.Intn(f.High-f.Low+1)
	}
	return f
}

// checkRaw compares a raw value with the exact one.
func checkRaw(t *testing.T, f api.Feature, curves [][]api.Point, v *big.Rat) {
	t.Helper()
	want := raw(f, curves, v)
	got, e := profile.Raw(f, curves, api.Rat(v.RatString()))
	if got != want || e != api.OK {
		t.Errorf("Raw of %d to %d through %v at %.60s: got %d, %d, want %d", f.Low, f.High, shape(f, curves), v.RatString(), got, e, want)
	}
	if got < f.Low || got > f.High {
		t.Errorf("Raw of %d to %d: got %d", f.Low, f.High, got)
	}
}

func TestRawAgainstBig(t *testing.T) {
	r := rand.New(rand.NewSource(1))
	for range 300 {
		l := sampleCurves(r)
		f := sampleFeature(r, l)
		for range 30 {
			den := 1 + r.Intn([]int{1, 10, 70000, 1 << 45}[r.Intn(4)])
			checkRaw(t, f, l, big.NewRat(int64(r.Intn(full*den+1)), int64(den)))
		}
		for range 5 {
			checkRaw(t, f, l, big.NewRat(int64(r.Intn(9*full)-4*full), int64(1+r.Intn(4))))
		}
		for _, p := range shape(f, l) {
			checkRaw(t, f, l, big.NewRat(int64(p.X), 1))
		}
	}
}

// turn returns a number at which the raw value of a feature changes, or the X of a point where there is none.
func turn(r *rand.Rand, f api.Feature, c []api.Point) *big.Rat {
	i := 1 + r.Intn(len(c)-1)
	way, rise := c[i].X-c[i-1].X, c[i].Y-c[i-1].Y
	if rise == 0 || f.Low == f.High {
		return big.NewRat(int64(c[i].X), 1)
	}
	// The curve has the height at which half a raw value more than some others is reached.
	height := big.NewRat(int64(2*r.Intn(f.High-f.Low)+1)*full, int64(2*(f.High-f.Low)))
	height.Sub(height, big.NewRat(int64(c[i-1].Y), 1))
	height.Mul(height, big.NewRat(int64(way), int64(rise)))
	return height.Add(height, big.NewRat(int64(c[i-1].X), 1))
}

// TestRawOfLongNumbersAgainstBig takes numbers with many digits near those at which raw values change, and these too.
func TestRawOfLongNumbersAgainstBig(t *testing.T) {
	r := rand.New(rand.NewSource(2))
	ten := big.NewInt(10)
	for range 1500 {
		l := sampleCurves(r)
		f := sampleFeature(r, l)
		v := turn(r, f, shape(f, l))
		checkRaw(t, f, l, v)
		power := new(big.Int).Exp(ten, big.NewInt(int64([]int{18, 19, 20, 40, 4000, 4070}[r.Intn(6)])), nil)
		tiny := new(big.Rat).SetFrac(big.NewInt(int64(1+r.Intn(9))), power.Add(power, big.NewInt(int64(r.Intn(1000)))))
		checkRaw(t, f, l, new(big.Rat).Add(v, tiny))
		checkRaw(t, f, l, new(big.Rat).Sub(v, tiny))
	}
}

func TestRawOfAnyLongNumbers(t *testing.T) {
	r := rand.New(rand.NewSource(3))
	limit := new(big.Int).Exp(big.NewInt(10), big.NewInt(300), nil)
	for range 300 {
		l := sampleCurves(r)
		f := sampleFeature(r, l)
		num, den := new(big.Int).Rand(r, limit), new(big.Int).Rand(r, limit)
		num.Div(num, big.NewInt(int64(1+r.Intn(100000))))
		den.Div(den, big.NewInt(int64(1+r.Intn(100000))))
		checkRaw(t, f, l, new(big.Rat).SetFrac(num, den.Add(den, big.NewInt(1))))
	}
}

func TestRawOfTheStraightCurveIsEight(t *testing.T) {
	for v := range full + 1 {
		want, _ := level.Eight(ratio.Whole(v))
		if got, e := profile.Raw(dimmer(), curves(), ratio.Whole(v)); got != want || e != api.OK {
			t.Errorf("Raw(%d): got %d, %d, want %d", v, got, e, want)
		}
	}
	r := rand.New(rand.NewSource(4))
	for range 2000 {
		den := 1 + r.Intn(100000)
		v, _ := ratio.Part(r.Intn(full*den+1), den)
		want, _ := level.Eight(v)
		if got, e := profile.Raw(eight(0, 255), nil, v); got != want || e != api.OK {
			t.Errorf("Raw(%q): got %d, %d, want %d", v, got, e, want)
		}
	}
}

// TestLevelIsTheLeast compares levels with those that are found by trying all of them.
func TestLevelIsTheLeast(t *testing.T) {
	r := rand.New(rand.NewSource(5))
	for range 6 {
		l := sampleCurves(r)
		f := sampleFeature(r, l)
		least := map[int]int{}
		for v := range full + 1 {
			n := raw(f, l, big.NewRat(int64(v), 1))
			if _, found := least[n]; !found {
				least[n] = v
			}
		}
		for range 400 {
			n := f.Low + r.Intn(f.High-f.Low+1)
			want, found := least[n]
			wantE := api.ErrEmpty
			if found {
				wantE = api.OK
			}
			got, e := profile.Level(f, l, n)
			if got != want || e != wantE {
				t.Errorf("Level of %d to %d through %v at %d: got %d, %d, want %d, %d", f.Low, f.High, shape(f, l), n, got, e, want, wantE)
			}
		}
	}
}

func TestLevelsHaveTheirRawValues(t *testing.T) {
	r := rand.New(rand.NewSource(6))
	for range 400 {
		l := sampleCurves(r)
		f := sampleFeature(r, l)
		first, _ := profile.Raw(f, l, ratio.Whole(r.Intn(full+1))) // there is a level for this one
		for i, n := range []int{first, f.Low, f.High, f.Low + r.Intn(f.High-f.Low+1)} {
			v, e := profile.Level(f, l, n)
			if e == api.ErrEmpty && i > 0 {
				continue
			}
			if back, f := profile.Raw(f, l, ratio.Whole(v)); back != n || e != api.OK || f != api.OK {
				t.Errorf("the level of %d is %d, %d, which has the raw value %d, %d", n, v, e, back, f)
			}
		}
	}
}

func TestRawValuesDoNotDescend(t *testing.T) {
	r := rand.New(rand.NewSource(7))
	for range 150 {
		l := sampleCurves(r)
		for _, c := range l {
			ys := []int{}
			for _, p := range c {
				ys = append(ys, p.Y)
			}
			slices.Sort(ys)
			for i := range c {
				c[i].Y = ys[i]
			}
		}
		f := sampleFeature(r, l)
		last := f.Low
		v := -100
		for last < f.High && v < full+100 {
			now, e := profile.Raw(f, l, ratio.Whole(v))
			if now < last || e != api.OK {
				t.Errorf("Raw through %v: got %d, %d at %d, and %d before", shape(f, l), now, e, v, last)
			}
			last, v = now, v+1+r.Intn(2000)
		}
	}
}

func TestBytesMakeTheRawValue(t *testing.T) {
	for n := range full + 1 {
		b, e := profile.Bytes(sixteen(0, full), n)
		if e != api.OK || len(b) != 2 {
			t.Fatalf("Bytes(%d): got %v, %d", n, b, e)
		}
		if back, e := level.Join(b[0], b[1]); back != n || e != api.OK {
			t.Errorf("Bytes(%d): got %v, which make %d", n, b, back)
		}
	}
	for n := range 256 {
		if b, e := profile.Bytes(eight(0, 255), n); !slices.Equal(b, []int{n}) || e != api.OK {
			t.Errorf("Bytes(%d): got %v, %d", n, b, e)
		}
	}
}

func TestMiddlesAreInTheirSlots(t *testing.T) {
	r := rand.New(rand.NewSource(8))
	for range 300 {
		f := eight(0, 255)
		f.Wheel = slots(r.Intn(api.MaxWheel + 1))
		from := 0
		for i := range f.Wheel {
			from += r.Intn(2000)
			f.Wheel[i].From = from
			from += r.Intn(2000)
			f.Wheel[i].To = from
			from++
		}
		for _, s := range f.Wheel {
			middle, e := profile.Middle(f, s.Name)
			if name, f := profile.Slot(f, middle); name != s.Name || e != api.OK || f != api.OK {
				t.Errorf("%v has the middle %d, %d, which is in %q, %d", s, middle, e, name, f)
			}
			if below, above := middle-s.From, s.To-middle; below != above && below != above-1 {
				t.Errorf("%v has the middle %d", s, middle)
			}
		}
		v := r.Intn(full + 1)
		want := ""
		for _, s := range f.Wheel {
			if s.From <= v && v <= s.To {
				want = s.Name
			}
		}
		if got, e := profile.Slot(f, v); got != want || (e == api.OK) != (want != "") {
			t.Errorf("Slot of %v at %d: got %q, %d, want %q", f.Wheel, v, got, e, want)
		}
	}
}

func TestFoundFeaturesHaveTheirAttributes(t *testing.T) {
	p := spot()
	for attr := -1; attr <= api.Attrs; attr++ {
		i, e := profile.Find(p, curves(), attr)
		has := slices.ContainsFunc(p.Features, func(f api.Feature) bool { return f.Attr == attr })
		if (e == api.OK) != has || has && p.Features[i].Attr != attr {
			t.Errorf("Find(%d): got %d, %d", attr, i, e)
		}
	}
}

// TestListsAreNotShared checks that arguments stay as they are, beyond their length too, and that results are new.
func TestListsAreNotShared(t *testing.T) {
	p, before := spot(), spot()
	p.Features = append(p.Features, gobo())[:3]
	p.Features[2].Wheel = append(p.Features[2].Wheel, api.Slot{Name: "more"})[:4]
	c := append(curves(), tent())[:3]
	c[2] = append(c[2], api.Point{X: 1, Y: 1})[:3]
	f := p.Features[2]
	for range 2 {
		e := profile.Check(p, c)
		_, e1 := profile.Find(p, c, api.AttrGobo)
		_, e2 := profile.Raw(f, c, "1/2")
		_, e3 := profile.Level(f, c, 15)
		_, e4 := profile.Slot(f, 5)
		_, e5 := profile.Middle(f, "red")
		if e+e1+e2+e3+e4+e5 != api.OK {
			t.Errorf("got the errors %v", []api.Errno{e, e1, e2, e3, e4, e5})
		}
		b, e := profile.Bytes(p.Features[1], 513)
		if !slices.Equal(b, []int{2, 1}) || e != api.OK {
			t.Errorf("Bytes: got %v, %d", b, e)
		}
		clear(b[:cap(b)])
	}
	if !reflect.DeepEqual(p, before) || !reflect.DeepEqual(c, curves()) {
		t.Errorf("the arguments have become %v and %v", p, c)
	}
	if !reflect.DeepEqual(p.Features[:4][3], gobo()) || p.Features[2].Wheel[:5][4].Name != "more" || c[:4][3] == nil || c[2][:4][3].X != 1 {
		t.Errorf("what is beyond the arguments has changed")
	}
}

func TestRawIsThatOfTheCurveWithItsNumber(t *testing.T) {
	r := rand.New(rand.NewSource(9))
	for range 100 {
		l := sampleCurves(r)
		for i, c := range l {
			v := r.Intn(full + 1)
			value, e := curve.At(c, ratio.Whole(v))
			want, f := level.Sixteen(value)
			if got, g := profile.Raw(through(sixteen(0, full), i+1), l, ratio.Whole(v)); got != want || e+f+g != api.OK {
				t.Errorf("Raw through %v at %d: got %d, want %d", c, v, got, want)
			}
		}
	}
}

// anyInt returns an int that may be of any size, and is often next to a limit.
func anyInt(r *rand.Rand) int {
	return []int{0, 0, 1, -1, 8, 16, 255, 256, full, full + 1, math.MinInt, math.MaxInt, r.Intn(20), r.Intn(full), -r.Intn(full)}[r.Intn(15)]
}

// anyFeature returns a feature with any fields, of which many are right.
func anyFeature(r *rand.Rand) api.Feature {
	f := api.Feature{Attr: r.Intn(api.Attrs), Bits: 8 + r.Intn(2)*8, Coarse: r.Intn(20), Fine: r.Intn(2) * r.Intn(20), High: 255}
	for _, field := range []*int{&f.Attr, &f.Bits, &f.Coarse, &f.Fine, &f.Curve, &f.Home, &f.Low, &f.High} {
		if r.Intn(12) == 0 {
			*field = anyInt(r)
		}
	}
	for range r.Intn(2) * r.Intn(20) {
		f.Wheel = append(f.Wheel, api.Slot{Name: []string{"a", "b", "", "A", "a b"}[r.Intn(5)], From: anyInt(r), To: anyInt(r)})
	}
	return f
}

// TestAnyArgumentsEnd hands any features to all functions: they end, with nothing beside an error.
func TestAnyArgumentsEnd(t *testing.T) {
	r := rand.New(rand.NewSource(10))
	numbers := []api.Rat{"", "0", "1", "-1", "1/2", "65535", "65536", "131071/2", "2/4", "x", "1/", "/", "-"}
	for range 30000 {
		p := api.Profile{Name: []string{"a", "spot", "", "A"}[r.Intn(4)], Footprint: 1 + r.Intn(30), Watts: r.Intn(9)}
		for range r.Intn(4) * r.Intn(6) {
			p.Features = append(p.Features, anyFeature(r))
		}
		l := curves()[:r.Intn(4)]
		want := profile.Check(p, l)
		if i, e := profile.Find(p, l, anyInt(r)); e != want && (want != api.OK || e != api.ErrNone) || e != api.OK && i != 0 {
			t.Errorf("Find(%v): got %d, %d, want %d", p, i, e, want)
		}
		f := anyFeature(r)
		if n, e := profile.Raw(f, l, numbers[r.Intn(len(numbers))]); e != api.OK && n != 0 || e == api.OK && (n < f.Low || n > f.High) {
			t.Errorf("Raw(%v): got %d, %d", f, n, e)
		}
		if v, e := profile.Level(f, l, anyInt(r)); e != api.OK && v != 0 || level.Check(v) != api.OK {
			t.Errorf("Level(%v): got %d, %d", f, v, e)
		}
		if b, e := profile.Bytes(f, anyInt(r)); e == api.OK && len(b) != f.Bits/8 || e != api.OK && len(b) != 0 {
			t.Errorf("Bytes(%v): got %v, %d", f, b, e)
		}
		if name, e := profile.Slot(f, anyInt(r)); (name == "") != (e != api.OK) {
			t.Errorf("Slot(%v): got %q, %d", f, name, e)
		}
		if v, e := profile.Middle(f, "a"); e != api.OK && v != 0 || level.Check(v) != api.OK {
			t.Errorf("Middle(%v): got %d, %d", f, v, e)
		}
	}
}

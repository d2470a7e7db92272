package colour_test

import (
	"math/big"
	"math/rand"
	"slices"
	"testing"

	"luminaire/api"
	"luminaire/colour"
	"luminaire/level"
)

// sampleColour returns a colour, of which some have few levels, or levels next to a limit.
func sampleColour(r *rand.Rand) [3]int {
	var rgb [3]int
	most := []int{1, 3, 300, full}[r.Intn(4)]
	for i := range rgb {
		rgb[i] = []int{0, full, r.Intn(most + 1), r.Intn(most + 1), r.Intn(most + 1)}[r.Intn(5)]
	}
	return rgb
}

// palettes returns all lists of different primaries in ascending order, whether they can make a colour or not.
func palettes() [][]int {
	var l [][]int
	for set := range 1 << 8 {
		var attrs []int
		for i, attr := range every() {
			if set>>i&1 == 1 {
				attrs = append(attrs, attr)
			}
		}
		l = append(l, attrs)
	}
	return l
}

// hasAll reports whether a list has all of some others.
func hasAll(l, wanted []int) bool {
	return !slices.ContainsFunc(wanted, func(attr int) bool { return !slices.Contains(l, attr) })
}

func TestCheckOfAllPalettes(t *testing.T) {
	r := rand.New(rand.NewSource(1))
	for _, attrs := range palettes() {
		want := api.ErrNone
		if hasAll(attrs, lamps()) || hasAll(attrs, dyes()) {
			want = api.OK
		}
		for range 5 {
			r.Shuffle(len(attrs), func(i, j int) { attrs[i], attrs[j] = attrs[j], attrs[i] })
			if e := colour.Check(attrs); e != want {
				t.Errorf("Check(%v): got %d, want %d", attrs, e, want)
			}
		}
	}
}

// TestLightOfMixes checks for all palettes that the light of a mixed colour is this colour, and what the levels are.
func TestLightOfMixes(t *testing.T) {
	r := rand.New(rand.NewSource(2))
	for _, attrs := range palettes() {
		if colour.Check(attrs) != api.OK {
			continue
		}
		for range 60 {
			rgb := sampleColour(r)
			r.Shuffle(len(attrs), func(i, j int) { attrs[i], attrs[j] = attrs[j], attrs[i] })
			mixed, e := colour.Mix(attrs, rgb)
			if back, f := colour.Light(attrs, mixed); back != rgb || e != api.OK || f != api.OK {
				t.Errorf("Mix(%v, %v): got %v, %d, whose light is %v, %d", attrs, rgb, mixed, e, back, f)
			}
			needed := lamps()
			if !hasAll(attrs, lamps()) {
				needed = dyes()
			}
			used := 0
			for i, v := range mixed {
				if level.Check(v) != api.OK || v != 0 && attrs[i] != white && !slices.Contains(needed, attrs[i]) {
					t.Errorf("Mix(%v, %v): got %v", attrs, rgb, mixed)
				}
				if v != 0 && slices.Contains(lamps(), attrs[i]) {
					used++
				}
			}
			if used == 3 && slices.Contains(attrs, white) {
				t.Errorf("Mix(%v, %v): got %v, which has all three primaries", attrs, rgb, mixed)
			}
		}
	}
}

// TestOrderOfAttributes checks that the levels belong to the attributes wherever these are.
func TestOrderOfAttributes(t *testing.T) {
	r := rand.New(rand.NewSource(3))
	for _, attrs := range palettes() {
		if colour.Check(attrs) != api.OK {
			continue
		}
		rgb := sampleColour(r)
		mixed, _ := colour.Mix(attrs, rgb)
		levels := make([]int, len(attrs))
		for i := range levels {
			levels[i] = r.Intn(full + 1)
		}
		light, _ := colour.Light(attrs, levels)
		order := r.Perm(len(attrs))
		var otherAttrs, otherMixed, otherLevels []int
		for _, i := range order {
			otherAttrs, otherMixed, otherLevels = append(otherAttrs, attrs[i]), append(otherMixed, mixed[i]), append(otherLevels, levels[i])
		}
		if got, e := colour.Mix(otherAttrs, rgb); !slices.Equal(got, otherMixed) || e != api.OK {
			t.Errorf("Mix(%v, %v): got %v, %d, want %v", otherAttrs, rgb, got, e, otherMixed)
		}
		if got, e := colour.Light(otherAttrs, otherLevels); got != light || e != api.OK {
			t.Errorf("Light(%v, %v): got %v, %d, want %v", otherAttrs, otherLevels, got, e, light)
		}
	}
}

// TestLightOfAnyLevels compares lights with what the document says of them.
func TestLightOfAnyLevels(t *testing.T) {
	r := rand.New(rand.NewSource(4))
	for _, attrs := range palettes() {
		if colour.Check(attrs) != api.OK {
			continue
		}
		for range 10 {
			levels := make([]int, len(attrs))
			of := map[int]int{}
			for i, attr := range attrs {
				levels[i] = []int{0, full, r.Intn(full + 1), r.Intn(100)}[r.Intn(4)]
				of[attr] = levels[i]
			}
			want := [3]int{min(full, of[red]+of[white]), min(full, of[green]+of[white]), min(full, of[blue]+of[white])}
			if !hasAll(attrs, lamps()) {
				want = [3]int{full - of[cyan], full - of[magenta], full - of[yellow]}
			}
			if got, e := colour.Light(attrs, levels); got != want || e != api.OK {
				t.Errorf("Light(%v, %v): got %v, %d, want %v", attrs, levels, got, e, want)
			}
		}
	}
}

// floor returns a rational number rounded down.
func floor(x *big.Rat) int {
	return int(new(big.Int).Div(x.Num(), x.Denom()).Int64()) // Div rounds down for denominators, which are positive
}

// wheel returns hue, saturation and brightness as the document defines them.
func wheel(rgb [3]int) [3]int {
	m, n := slices.Max(rgb[:]), slices.Min(rgb[:])
	if m == n {
		return [3]int{0, 0, m}
	}
	part := func(k int) int { return floor(big.NewRat(int64(1000*k), int64(m-n))) }
	h := 0
	switch m {
	case rgb[0]:
		h = part(rgb[1] - rgb[2])
	case rgb[1]:
		h = 2000 + part(rgb[2]-rgb[0])
	default:
		h = 4000 + part(rgb[0]-rgb[1])
	}
	if h < 0 {
		h += 6000
	}
	s := big.NewRat(int64(full*(m-n)), int64(m))
	return [3]int{h, floor(s.Add(s, big.NewRat(1, 2))), m}
}

func TestWheelAgainstBig(t *testing.T) {
	r := rand.New(rand.NewSource(5))
	l := [][3]int{}
	for i := range 9 * 9 * 9 {
		l = append(l, [3]int{i / 81, i / 9 % 9, i % 9}) // all colours of nine levels
	}
	for range 20000 {
		l = append(l, sampleColour(r))
	}
	for _, rgb := range l {
		got, e := colour.Wheel(rgb)
		if want := wheel(rgb); got != want || e != api.OK {
			t.Errorf("Wheel(%v): got %v, %d, want %v", rgb, got, e, want)
		}
		if got[0] < 0 || got[0] > 5999 || level.Check(got[1]) != api.OK || level.Check(got[2]) != api.OK {
			t.Errorf("Wheel(%v): got %v", rgb, got)
		}
	}
}

func TestMultiplesHaveTheSameHue(t *testing.T) {
	r := rand.New(rand.NewSource(6))
	for range 5000 {
		rgb := sampleColour(r)
		most := max(1, slices.Max(rgb[:]))
		k := 1 + r.Intn(full/most)
		a, e := colour.Wheel(rgb)
		b, f := colour.Wheel([3]int{k * rgb[0], k * rgb[1], k * rgb[2]})
		if a[0] != b[0] || a[1] != b[1] || k*a[2] != b[2] || e != api.OK || f != api.OK {
			t.Errorf("Wheel(%v): got %v, and %v for %d times this", rgb, a, b, k)
		}
	}
}

func TestGreyHasNoSaturation(t *testing.T) {
	for v := range full + 1 {
		if got, e := colour.Wheel([3]int{v, v, v}); got != [3]int{0, 0, v} || e != api.OK {
			t.Errorf("Wheel of the grey %d: got %v, %d", v, got, e)
		}
	}
}

// TestNearestOfAnyColours compares with the first of the least distances, and looks for each colour itself.
func TestNearestOfAnyColours(t *testing.T) {
	r := rand.New(rand.NewSource(7))
	for range 2000 {
		l := make([][3]int, 1+r.Intn([]int{4, 30, api.MaxList}[r.Intn(3)]))
		for i := range l {
			l[i] = sampleColour(r)
		}
		rgb := sampleColour(r)
		distances := make([]float64, len(l))
		for i, c := range l {
			for j := range c {
				d := float64(c[j] - rgb[j])
				distances[i] += d * d // exact: far less than 2 to the power of 53
			}
		}
		want := slices.Index(distances, slices.Min(distances))
		if got, e := colour.Nearest(rgb, l); got != want || e != api.OK {
			t.Errorf("Nearest(%v, %v): got %d, %d, want %d", rgb, l, got, e, want)
		}
		i := r.Intn(len(l))
		if got, e := colour.Nearest(l[i], l); got != slices.Index(l, l[i]) || e != api.OK {
			t.Errorf("Nearest(%v, %v): got %d, %d", l[i], l, got, e)
		}
	}
}

// TestListsAreNotShared checks that arguments stay as they are, beyond their length too, and that results are new.
func TestListsAreNotShared(t *testing.T) {
	attrs := append(every(), 99, 98)[:8]
	levels := append(ints(1, 2, 3, 4, 5, 6, 7, 8), 97, 96)[:8]
	colours := append([][3]int{{1, 2, 3}, {4, 5, 6}}, [3]int{7, 8, 9})[:2]
	for range 2 {
		mixed, e := colour.Mix(attrs, [3]int{30, 20, 10})
		if !slices.Equal(mixed, ints(20, 10, 0, 10, 0, 0, 0, 0)) || e != api.OK {
			t.Errorf("Mix: got %v, %d", mixed, e)
		}
		for i := range mixed[:cap(mixed)] {
			mixed[:cap(mixed)][i] = -7
		}
		_, e1 := colour.Light(attrs, levels)
		_, e2 := colour.Nearest([3]int{}, colours)
		if e = colour.Check(attrs); e+e1+e2 != api.OK {
			t.Errorf("got the errors %v", []api.Errno{e, e1, e2})
		}
	}
	if !slices.Equal(attrs[:10], append(every(), 99, 98)) || !slices.Equal(levels[:10], ints(1, 2, 3, 4, 5, 6, 7, 8, 97, 96)) {
		t.Errorf("the arguments have become %v and %v", attrs[:10], levels[:10])
	}
	if !slices.Equal(colours[:3], [][3]int{{1, 2, 3}, {4, 5, 6}, {7, 8, 9}}) {
		t.Errorf("the colours have become %v", colours[:3])
	}
}

// anyInt returns an int that may be of any size, and is often a primary or a level.
func anyInt(r *rand.Rand) int {
	if r.Intn(30) == 0 {
		wrong := append(noLevels(), noPrimaries()...)
		return wrong[r.Intn(len(wrong))]
	}
	return []int{red + r.Intn(8), r.Intn(full + 1)}[r.Intn(2)]
}

// TestAnyArgumentsEnd hands any ints to all functions: they end, with nothing beside an error.
func TestAnyArgumentsEnd(t *testing.T) {
	r := rand.New(rand.NewSource(8))
	for range 30000 {
		attrs := every()
		r.Shuffle(len(attrs), func(i, j int) { attrs[i], attrs[j] = attrs[j], attrs[i] })
		attrs = attrs[:r.Intn(9)]
		for range r.Intn(2) * r.Intn(9) {
			attrs = append(attrs, anyInt(r))
		}
		rgb := [3]int{anyInt(r), anyInt(r), anyInt(r)}
		levels := make([]int, max(0, len(attrs)+r.Intn(2)*(r.Intn(3)-1)))
		for i := range levels {
			levels[i] = anyInt(r)
		}
		want := colour.Check(attrs)
		if mixed, e := colour.Mix(attrs, rgb); want != api.OK && e != want || e == api.OK && len(mixed) != len(attrs) || e != api.OK && len(mixed) != 0 {
			t.Errorf("Mix(%v, %v): got %v, %d", attrs, rgb, mixed, e)
		}
		if light, e := colour.Light(attrs, levels); want != api.OK && e != want || e != api.OK && light != [3]int{} {
			t.Errorf("Light(%v, %v): got %v, %d", attrs, levels, light, e)
		}
		hue, e := colour.Wheel(rgb)
		if e != api.OK && hue != [3]int{} {
			t.Errorf("Wheel(%v): got %v, %d", rgb, hue, e)
		}
		l := make([][3]int, r.Intn(2)*r.Intn(400))
		for i := range l {
			l[i] = [3]int{r.Intn(full), anyInt(r), i}
		}
		if i, f := colour.Nearest(rgb, l); e != api.OK && f != e || f != api.OK && i != 0 {
			t.Errorf("Nearest(%v, %d colours): got %d, %d", rgb, len(l), i, f)
		}
	}
}

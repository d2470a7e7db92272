package palette_test

import (
	"cmp"
	"math/rand"
	"slices"
	"testing"

	"luminaire/api"
	"luminaire/palette"
)

// sampleChannel returns a channel from a limit on: a low one, or a high one, or any one.
func sampleChannel(r *rand.Rand, least int) int {
	return []int{least + r.Intn(4), api.MaxChannel - r.Intn(3), least + r.Intn(api.MaxChannel+1-least)}[r.Intn(5)/2]
}

// sampleAttr returns an attribute, which is often the first or the last one.
func sampleAttr(r *rand.Rand) int {
	return []int{r.Intn(api.Attrs), 0, api.Attrs - 1}[r.Intn(5)/2]
}

// sampleLevel returns a level, which is often at an end.
func sampleLevel(r *rand.Rand) int {
	return []int{r.Intn(api.MaxLevel + 1), 0, api.MaxLevel}[r.Intn(5)/2]
}

// samplePalette returns a palette with a low number.
func samplePalette(r *rand.Rand) api.Palette {
	x := of(1 + r.Intn(40))
	for range r.Intn([]int{40, api.MaxList + 1}[r.Intn(9)/8]) {
		h := api.Hue{Channel: sampleChannel(r, 0), Attr: sampleAttr(r), Level: sampleLevel(r)}
		if !slices.ContainsFunc(x.Hues, func(o api.Hue) bool { return o.Channel == h.Channel && o.Attr == h.Attr }) {
			x.Hues = append(x.Hues, h)
		}
	}
	slices.SortFunc(x.Hues, func(a, b api.Hue) int { return cmp.Or(a.Channel-b.Channel, a.Attr-b.Attr) })
	return x
}

// samplePalettes returns a list of palettes.
func samplePalettes(r *rand.Rand) palettes {
	var l palettes
	for range r.Intn(api.MaxPalettes + 1) {
		x := samplePalette(r)
		if !slices.ContainsFunc(l, func(o api.Palette) bool { return o.Number == x.Number }) {
			l = append(l, x)
		}
	}
	slices.SortFunc(l, func(a, b api.Palette) int { return a.Number - b.Number })
	return l
}

// sampleValue returns a value, which is often a reference with a low number.
func sampleValue(r *rand.Rand) api.Value {
	return []api.Value{home(), at(sampleLevel(r)), ref(1 + r.Intn(40))}[(r.Intn(6)+1)/2%3]
}

// sampleEntries returns a list of entries.
func sampleEntries(r *rand.Rand) entries {
	var l entries
	for range r.Intn(40) {
		x := entry(sampleChannel(r, 1), sampleAttr(r), sampleValue(r))
		if !slices.ContainsFunc(l, func(o api.Entry) bool { return o.Param == x.Param }) {
			l = append(l, x)
		}
	}
	slices.SortFunc(l, func(a, b api.Entry) int {
		return cmp.Or(a.Param.Channel-b.Param.Channel, a.Param.Attr-b.Param.Attr)
	})
	return l
}

// search looks for the hue of a parameter through all palettes, and all their hues.
func search(l palettes, number int, p api.Param) (level int, found bool) {
	for _, channel := range []int{0, p.Channel} {
		for _, x := range l {
			for _, h := range x.Hues {
				if x.Number == number && h.Channel == channel && h.Attr == p.Attr {
					level, found = h.Level, true
				}
			}
		}
	}
	return level, found
}

// mustLevel returns the level of an entry.
func mustLevel(t *testing.T, l palettes, x api.Entry, home int) int {
	t.Helper()
	got, e := palette.Level(l, x.Value, x.Param, home)
	if e != api.OK {
		t.Fatalf("Level(%v, %v, %d): got %d", l, x, home, e)
	}
	return got
}

// TestReferencesAreSearched compares what is said of entries with searches through all palettes.
func TestReferencesAreSearched(t *testing.T) {
	r := rand.New(rand.NewSource(1))
	hues, homes := 0, 0
	for range 2000 {
		l, given := samplePalettes(r), sampleEntries(r)
		var flat entries
		var missing params
		numbers := map[int]bool{}
		for _, x := range given {
			want, homeLevel := x.Value.Level, sampleLevel(r)
			if x.Value == home() {
				want = homeLevel
			}
			if x.Value.Palette > 0 {
				numbers[x.Value.Palette] = true
				level, found := search(l, x.Value.Palette, x.Param)
				if found {
					hues++
					want, x.Value = level, at(level)
				} else {
					homes++
					want, x.Value, missing = homeLevel, home(), append(missing, x.Param)
				}
			}
			flat = append(flat, x)
			if got := mustLevel(t, l, given[len(flat)-1], homeLevel); got != want {
				t.Errorf("Level(%v, %v, %d): got %d, want %d", l, given[len(flat)-1], homeLevel, got, want)
			}
		}
		if got, e := palette.Flat(l, given); !slices.Equal(got, flat) || e != api.OK {
			t.Errorf("Flat(%v, %v): got %v, %d, want %v", l, given, got, e, flat)
		}
		if got, e := palette.Missing(l, given); !slices.Equal(got, missing) || e != api.OK {
			t.Errorf("Missing(%v, %v): got %v, %d, want %v", l, given, got, e, missing)
		}
		got, e := palette.Used(given)
		if len(got) != len(numbers) || !slices.IsSorted(got) || slices.ContainsFunc(got, func(n int) bool { return !numbers[n] }) || e != api.OK {
			t.Errorf("Used(%v): got %v, %d", given, got, e)
		}
	}
	if hues < 1000 || homes < 3000 {
		t.Errorf("%d references had a hue, and %d had none", hues, homes)
	}
}

// TestFlatEntriesHaveTheSameLevels checks that flat entries have no references, but all levels, and that what is missing is at home.
func TestFlatEntriesHaveTheSameLevels(t *testing.T) {
	r := rand.New(rand.NewSource(2))
	for range 1500 {
		l, given := samplePalettes(r), sampleEntries(r)
		flat, e := palette.Flat(l, given)
		if used, f := palette.Used(flat); len(used) > 0 || len(flat) != len(given) || cmp.Or(e, f) != api.OK {
			t.Errorf("Flat(%v, %v): got %v, %d, with the palettes %v, %d", l, given, flat, e, used, f)
		}
		if again, e := palette.Flat(l, flat); !slices.Equal(again, flat) || e != api.OK {
			t.Errorf("Flat(%v, %v): got %v, %d", l, flat, again, e)
		}
		missing, e := palette.Missing(l, given)
		if e != api.OK {
			t.Errorf("Missing(%v, %v): got %d", l, given, e)
		}
		for i, x := range given {
			for _, homeLevel := range []int{0, 1, sampleLevel(r), api.MaxLevel} {
				got := mustLevel(t, l, x, homeLevel)
				if other := mustLevel(t, nil, flat[i], homeLevel); other != got {
					t.Errorf("%v has the level %d, but %v has %d", x, got, flat[i], other)
				}
				if slices.Contains(missing, x.Param) && got != homeLevel {
					t.Errorf("%v is missing, and has the level %d instead of %d", x, got, homeLevel)
				}
			}
		}
	}
}

// TestOnlyReferencesToAPaletteChange puts and drops palettes, and checks what this changes.
func TestOnlyReferencesToAPaletteChange(t *testing.T) {
	r := rand.New(rand.NewSource(3))
	news, olds := 0, 0
	for range 1500 {
		l, x, given := samplePalettes(r), samplePalette(r), sampleEntries(r)
		put, e := palette.Put(l, x)
		i, found, f := palette.Find(put, x.Number)
		if !found || !equal(put[i:i+1], palettes{x}) || cmp.Or(e, f, palette.Check(put)) != api.OK {
			t.Errorf("Put(%v, %v): got %v, %d, where it is at %d, %t, %d", l, x, put, e, i, found, f)
		}
		dropped, found, e := palette.Drop(put, x.Number)
		if !found || !equal(dropped, slices.Concat(put[:i], put[i+1:])) || e != api.OK {
			t.Errorf("Drop(%v, %d): got %v, %t, %d", put, x.Number, dropped, found, e)
		}
		if len(dropped) == len(l) {
			news++
		} else {
			olds++
		}
		for _, y := range given {
			homeLevel := sampleLevel(r)
			before, with, without := mustLevel(t, l, y, homeLevel), mustLevel(t, put, y, homeLevel), mustLevel(t, dropped, y, homeLevel)
			if y.Value.Palette == x.Number {
				if want := mustLevel(t, palettes{x}, y, homeLevel); with != want || without != homeLevel {
					t.Errorf("%v has the level %d with %v, and %d without", y, with, x, without)
				}
				continue
			}
			if with != before || without != before {
				t.Errorf("%v had the level %d, and %d with %v, and %d without", y, before, with, x, without)
			}
		}
	}
	if news < 300 || olds < 300 {
		t.Errorf("%d palettes were new, and %d there before", news, olds)
	}
}

// spared returns palettes with room behind all lists, where something is.
func spared(l palettes) palettes {
	for i, x := range l {
		l[i].Hues = append(slices.Clone(x.Hues), api.Hue{Level: 777})[:len(x.Hues)]
	}
	return append(l, of(777))[:len(l)]
}

// TestListsAreNotShared checks that arguments stay as they are, beyond their length too, and that results are new.
func TestListsAreNotShared(t *testing.T) {
	l, x := spared(stage()), spared(palettes{of(6, manyHues(2)...)})[0]
	given := append(entries{entry(3, api.AttrRed, ref(4)), entry(3, api.AttrGreen, ref(9)), entry(7, api.AttrRed, at(5))}, entry(7, 7, at(7)))[:3]
	for range 2 {
		for name, change := range map[string]func() (palettes, api.Errno){
			"Put":          func() (palettes, api.Errno) { return palette.Put(l, x) },
			"Put instead":  func() (palettes, api.Errno) { return palette.Put(l, of(4, x.Hues...)) },
			"Put behind":   func() (palettes, api.Errno) { return palette.Put(l[:1], x) },
			"Drop":         func() (palettes, api.Errno) { got, _, e := palette.Drop(l, 5); return got, e },
			"Drop nothing": func() (palettes, api.Errno) { got, _, e := palette.Drop(l, 6); return got, e },
		} {
			got, e := change()
			if len(got) < 2 || len(got[0].Hues) == 0 || e != api.OK {
				t.Errorf("%s: got %v, %d", name, got, e)
			}
			for _, x := range got[:cap(got)] {
				clear(x.Hues[:cap(x.Hues)])
			}
			clear(got[:cap(got)])
		}
		used, e := palette.Used(given)
		flat, f := palette.Flat(l, given)
		missing, g := palette.Missing(l, given)
		if len(used) != 2 || len(flat) != 3 || len(missing) != 1 || cmp.Or(e, f, g) != api.OK {
			t.Errorf("got %v, %d, %v, %d, %v, %d", used, e, flat, f, missing, g)
		}
		clear(used[:cap(used)])
		clear(flat[:cap(flat)])
		clear(missing[:cap(missing)])
	}
	if !equal(l[:5], append(stage(), of(777))) || !equal(palettes{x}, palettes{of(6, manyHues(2)...)}) {
		t.Errorf("the palettes have become %v and %v", l[:5], x)
	}
	for _, x := range append(slices.Clone(l), x) {
		if full := x.Hues[:len(x.Hues)+1]; full[len(x.Hues)] != (api.Hue{Level: 777}) {
			t.Errorf("the hues have become %v", full)
		}
	}
	if !slices.Equal(given[:4], entries{entry(3, api.AttrRed, ref(4)), entry(3, api.AttrGreen, ref(9)), entry(7, api.AttrRed, at(5)), entry(7, 7, at(7))}) {
		t.Errorf("the entries have become %v", given[:4])
	}
}

// TestHuesOfOneResultAreNotShared checks that palettes of a result have hues of their own, also where those of the arguments are the same.
func TestHuesOfOneResultAreNotShared(t *testing.T) {
	hues := manyHues(3)
	l := palettes{of(1, hues...), of(2, hues...)}
	put, e := palette.Put(l, of(3, hues...))
	dropped, _, f := palette.Drop(l, 9)
	if len(put) != 3 || len(dropped) != 2 || cmp.Or(e, f) != api.OK {
		t.Fatalf("got %v, %d and %v, %d", put, e, dropped, f)
	}
	clear(put[0].Hues)
	clear(dropped[1].Hues)
	if !slices.Equal(put[1].Hues, manyHues(3)) || !slices.Equal(put[2].Hues, manyHues(3)) || !slices.Equal(dropped[0].Hues, manyHues(3)) {
		t.Errorf("the palettes have become %v and %v", put, dropped)
	}
}

// anyInt returns an int that is nearly always from one to another.
func anyInt(r *rand.Rand, least, most int) int {
	if r.Intn(60) > 0 {
		return least + r.Intn(most-least+1)
	}
	return outside(least, most)[r.Intn(7)]
}

// anyPalettes returns palettes that are often a list of palettes.
func anyPalettes(r *rand.Rand) palettes {
	l := samplePalettes(r)
	if r.Intn(20) == 0 {
		l = append(l, many(api.MaxPalettes)...)
	}
	for i, x := range l {
		switch {
		case r.Intn(90) == 0:
			l[i].Number = anyInt(r, 1, 40)
		case r.Intn(90) == 0 && len(x.Hues) > 0:
			x.Hues[r.Intn(len(x.Hues))] = api.Hue{Channel: anyInt(r, 0, 3), Attr: anyInt(r, 0, 3), Level: anyInt(r, 0, 3)}
		}
	}
	return l
}

// anyEntries returns entries that are often a list of entries.
func anyEntries(r *rand.Rand) entries {
	l := sampleEntries(r)
	for i := range l {
		if r.Intn(60) == 0 {
			l[i] = entry(anyInt(r, 1, 3), anyInt(r, 0, 3), api.Value{Palette: anyInt(r, -1, 3), Level: anyInt(r, 0, 1)})
		}
	}
	return l
}

// TestAnyArgumentsEnd hands any arguments to all functions: they end, with nothing beside an error.
func TestAnyArgumentsEnd(t *testing.T) {
	r := rand.New(rand.NewSource(4))
	right := 0
	for range 3000 {
		l, given, x, n := anyPalettes(r), anyEntries(r), samplePalette(r), anyInt(r, 1, 40)
		x.Number = n
		p, v, homeLevel := param(anyInt(r, 1, 9), anyInt(r, 0, 3)), api.Value{Palette: anyInt(r, -1, 40), Level: anyInt(r, 0, 1)}, anyInt(r, 0, 9)
		want, own, listed := palette.Check(l), palette.Check(palettes{x}), palette.Entries(given)
		if cmp.Or(want, listed) == api.OK {
			right++
		}
		i, found, e1 := palette.Find(l, n)
		dropped, gone, e2 := palette.Drop(l, n)
		put, e3 := palette.Put(l, x)
		if e1 != want || e2 != want || cmp.Or(want, own, e3) != e3 || found != gone || e1 != api.OK && (i != 0 || found) || e2 != api.OK && len(dropped) > 0 || (e3 != api.OK) != (len(put) == 0) {
			t.Errorf("%v, %v: got %d, %t, %d, %v, %t, %d, %v, %d", l, x, i, found, e1, dropped, gone, e2, put, e3)
		}
		if cmp.Or(palette.Check(dropped), palette.Check(put)) != api.OK {
			t.Errorf("%v, %v: got %v and %v", l, x, dropped, put)
		}
		flat, e4 := palette.Flat(l, given)
		missing, e5 := palette.Missing(l, given)
		used, e6 := palette.Used(given)
		if e4 != cmp.Or(want, listed) || e5 != e4 || e6 != listed || e4 != api.OK && len(flat)+len(missing) > 0 || e6 != api.OK && len(used) > 0 {
			t.Errorf("%v, %v: got %v, %d, %v, %d, %v, %d", l, given, flat, e4, missing, e5, used, e6)
		}
		level, e7 := palette.Level(l, v, p, homeLevel)
		first := cmp.Or(want, palette.Entries(entries{{Param: p, Value: v}}))
		if cmp.Or(first, e7) != e7 || e7 != api.OK && level != 0 || (homeLevel < 0 || homeLevel > api.MaxLevel) && e7 == api.OK {
			t.Errorf("Level(%v, %v, %v, %d): got %d, %d", l, v, p, homeLevel, level, e7)
		}
	}
	if right < 700 || right > 2500 {
		t.Errorf("%d of the arguments were right", right)
	}
}

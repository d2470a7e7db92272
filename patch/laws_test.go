package patch_test

import (
	"cmp"
	"math"
	"math/rand"
	"reflect"
	"slices"
	"testing"

	"luminaire/api"
	"luminaire/patch"
)

// footprint returns that of a fixture with one of the profiles that sampleFixture gives.
func footprint(x api.Fixture) int {
	switch x.Profile {
	case "par":
		return 1
	case "spot":
		return 6
	case "head":
		return 10
	case "Odd name!":
		return 3
	}
	return 2
}

// sampleFixture returns a fixture that may be at any address. There are few channels and parts, so that some are the same.
func sampleFixture(r *rand.Rand) api.Fixture {
	x := at(1+r.Intn(9), 1+r.Intn(9), []string{"par", "spot", "head", "", "Odd name!"}[r.Intn(5)], 1+r.Intn(3), 1+r.Intn(40))
	if r.Intn(3) == 0 {
		x.Channel, x.Part, x.Universe = 1+r.Intn(api.MaxChannel), 1+r.Intn(api.MaxFixtures), 1+r.Intn(api.MaxUniverses)
		x.Address = []int{1 + r.Intn(api.MaxSlots), api.MaxSlots - r.Intn(12)}[r.Intn(2)]
	}
	x.Phase = 1 + r.Intn(3)
	x.Cable = []string{"", "c1", "main"}[r.Intn(3)]
	return x
}

// slotsOf returns the slots of a fixture.
func slotsOf(x api.Fixture) [][2]int {
	var l [][2]int
	for i := range footprint(x) {
		l = append(l, [2]int{x.Universe, x.Address + i})
	}
	return l
}

// errorBehind returns the error of a fixture whose fields are right behind some others, as the document defines it.
func errorBehind(l fixtures, x api.Fixture) api.Errno {
	end := func(x api.Fixture) int { return x.Address + footprint(x) - 1 }
	switch {
	case end(x) > api.MaxSlots:
		return api.ErrRange
	case slices.ContainsFunc(l, func(y api.Fixture) bool { return x.Channel == y.Channel && x.Part == y.Part }):
		return api.ErrTwice
	case slices.ContainsFunc(l, func(y api.Fixture) bool {
		return x.Universe == y.Universe && x.Address <= end(y) && y.Address <= end(x)
	}):
		return api.ErrOverlap
	}
	return api.OK
}

// errorOf returns the error of fixtures whose fields are right.
func errorOf(l fixtures) api.Errno {
	for i, x := range l {
		if e := errorBehind(l[:i], x); e != api.OK {
			return e
		}
	}
	return api.OK
}

// samplePatch returns fixtures that are patched.
func samplePatch(r *rand.Rand) fixtures {
	var l fixtures
	for range r.Intn([]int{4, 12, 60}[r.Intn(3)]) {
		if x := sampleFixture(r); errorBehind(l, x) == api.OK {
			l = append(l, x)
		}
	}
	return l
}

func TestCheckOfAnyFixtures(t *testing.T) {
	r := rand.New(rand.NewSource(1))
	found := map[api.Errno]int{}
	for range 6000 {
		l := samplePatch(r)
		for range r.Intn(3) {
			l = append(l, sampleFixture(r))
		}
		want := errorOf(l)
		if e := patch.Check(l, types()); e != want {
			t.Errorf("Check(%v): got %d, want %d", l, e, want)
		}
		found[want]++
	}
	for _, e := range []api.Errno{api.OK, api.ErrRange, api.ErrTwice, api.ErrOverlap} {
		if found[e] < 50 {
			t.Errorf("there were only %d lists with the error %d", found[e], e)
		}
	}
}

// TestSlotsAreUsedOnce compares all slots with those of the fixtures, and their numbers with the footprints.
func TestSlotsAreUsedOnce(t *testing.T) {
	r := rand.New(rand.NewSource(2))
	for range 6 {
		l := samplePatch(r)
		user, offset := map[[2]int]int{}, map[[2]int]int{}
		all := 0
		for i, x := range l {
			for j, s := range slotsOf(x) {
				user[s], offset[s] = i, j
			}
			all += footprint(x)
		}
		sum := 0
		for universe := 1; universe <= api.MaxUniverses; universe++ {
			counted := 0
			for address := 1; address <= api.MaxSlots; address++ {
				s := [2]int{universe, address}
				_, want := user[s]
				i, j, used, e := patch.At(l, types(), universe, address)
				if i != user[s] || j != offset[s] || used != want || e != api.OK {
					t.Errorf("At(%v): got %d, %d, %v, %d, want %d, %d, %v", s, i, j, used, e, user[s], offset[s], want)
				}
				if used {
					counted++
				}
			}
			used, e := patch.Used(l, types(), universe)
			if used != counted || e != api.OK {
				t.Errorf("Used(%d): got %d, %d, want %d", universe, used, e, counted)
			}
			sum += used
		}
		if sum != all {
			t.Errorf("%v use %d slots, want %d", l, sum, all)
		}
	}
}

// TestFreeAddressesAreTheLeast puts a fixture of a size at all addresses up to the free one.
func TestFreeAddressesAreTheLeast(t *testing.T) {
	r := rand.New(rand.NewSource(3))
	for range 250 {
		l := samplePatch(r)
		universe, size := 1+r.Intn(4), 1+r.Intn([]int{8, 40, api.MaxSlots}[r.Intn(3)])
		sized := append(types(), api.Profile{Name: "sized", Footprint: size})
		free, e := patch.Free(l, sized, universe, size)
		last := free
		if e == api.ErrEmpty {
			last = api.MaxSlots - size + 1
		}
		for address := 1; address <= last; address++ {
			_, got := patch.Put(l, sized, at(999, 64, "sized", universe, address))
			if want := map[bool]api.Errno{true: api.OK, false: api.ErrOverlap}[address == free]; got != want {
				t.Errorf("Free(%v, %d, %d): got %d, %d, and %d at %d", l, universe, size, free, e, got, address)
			}
		}
		if e != api.OK && (e != api.ErrEmpty || free != 0) {
			t.Errorf("Free(%v, %d, %d): got %d, %d", l, universe, size, free, e)
		}
	}
}

// TestPutIsFound checks that what was put is found, and that dropping it restores the list.
func TestPutIsFound(t *testing.T) {
	r := rand.New(rand.NewSource(4))
	news, olds := 0, 0
	for range 6000 {
		l, x := samplePatch(r), sampleFixture(r)
		i := slices.IndexFunc(l, func(y api.Fixture) bool { return x.Channel == y.Channel && x.Part == y.Part })
		want := append(slices.Clone(l), x)
		if i >= 0 {
			want = append(slices.Clone(l[:i]), append(fixtures{x}, l[i+1:]...)...)
		}
		put, e := patch.Put(l, types(), x)
		if e != errorOf(want) || e != api.OK && len(put) != 0 || e == api.OK && !slices.Equal(put, want) {
			t.Errorf("Put(%v, %v): got %v, %d, want %v, %d", l, x, put, e, want, errorOf(want))
		}
		if e != api.OK {
			continue
		}
		parts, e := patch.Find(put, types(), x.Channel)
		if !slices.Contains(parts, x) || e != api.OK {
			t.Errorf("Find(%v, %d): got %v, %d", put, x.Channel, parts, e)
		}
		dropped, there, e := patch.Drop(put, types(), x.Channel, x.Part)
		if i < 0 && !slices.Equal(dropped, l) || len(dropped) != len(put)-1 || slices.Contains(dropped, x) || !there || e != api.OK {
			t.Errorf("Drop(%v, %v): got %v, %v, %d", put, x, dropped, there, e)
		}
		if i < 0 {
			news++
		} else {
			olds++
		}
	}
	if news < 100 || olds < 100 {
		t.Errorf("%d fixtures were new, and %d there before", news, olds)
	}
}

// TestPartsOfChannels compares the parts, their attributes and the first ones with a search through all fixtures.
func TestPartsOfChannels(t *testing.T) {
	r := rand.New(rand.NewSource(5))
	attrs := []int{api.AttrIntensity, api.AttrPan, api.AttrTilt, api.AttrZoom, api.Attrs, -5, 1 << 40, 77}
	slices.Sort(attrs)
	for range 300 {
		l := samplePatch(r)
		for channel := 0; channel <= 10; channel++ {
			var want fixtures
			for part := 1; part <= api.MaxFixtures; part++ {
				for _, x := range l {
					if x.Channel == channel && x.Part == part {
						want = append(want, x)
					}
				}
			}
			if got, e := patch.Find(l, types(), channel); !slices.Equal(got, want) || e != api.OK {
				t.Errorf("Find(%v, %d): got %v, %d, want %v", l, channel, got, e, want)
			}
			var there []int
			for _, attr := range attrs {
				if checkFirst(t, l, want, api.Param{Channel: channel, Attr: attr}) {
					there = append(there, attr)
				}
			}
			if got, e := patch.Attrs(l, types(), channel); !slices.Equal(got, there) || e != api.OK {
				t.Errorf("Attrs(%v, %d): got %v, %d, want %v", l, channel, got, e, there)
			}
		}
	}
}

// checkFirst compares the first part with an attribute with that of the parts of the channel, and returns whether there is one.
func checkFirst(t *testing.T, l, parts fixtures, p api.Param) bool {
	t.Helper()
	x, f, found, e := patch.First(l, types(), p)
	for _, part := range parts {
		i := slices.IndexFunc(types(), func(p api.Profile) bool { return p.Name == part.Profile })
		for _, feature := range types()[i].Features {
			if feature.Attr == p.Attr {
				if x != part || !reflect.DeepEqual(f, feature) || !found || e != api.OK {
					t.Errorf("First(%v, %v): got %v, %v, %v, %d, want %v, %v", l, p, x, f, found, e, part, feature)
				}
				return true
			}
		}
	}
	if x != (api.Fixture{}) || !reflect.DeepEqual(f, api.Feature{}) || found || e != api.OK {
		t.Errorf("First(%v, %v): got %v, %v, %v, %d", l, p, x, f, found, e)
	}
	return false
}

// TestMoveIsPut checks that a moved fixture is one that is put with another address.
func TestMoveIsPut(t *testing.T) {
	r := rand.New(rand.NewSource(6))
	for range 3000 {
		l, to := samplePatch(r), sampleFixture(r)
		if len(l) == 0 {
			continue
		}
		x := l[r.Intn(len(l))]
		from := at(x.Channel, x.Part, "", 0, 0)
		x.Universe, x.Address = to.Universe, to.Address
		want, e := patch.Put(l, types(), x)
		if got, f := patch.Move(l, types(), from, to); !slices.Equal(got, want) || f != e {
			t.Errorf("Move(%v, %v, %v): got %v, %d, want %v, %d", l, from, to, got, f, want, e)
		}
	}
}

// TestListsAreNotShared checks that arguments stay as they are, beyond their length too, and that results are new.
func TestListsAreNotShared(t *testing.T) {
	n, spare := len(stage()), at(77, 7, "par", 7, 7)
	l := append(stage(), spare, spare)[:n]
	p := append(types(), api.Profile{Name: "spare"})[:len(types())]
	for range 2 {
		for name, change := range map[string]func() (fixtures, api.Errno){
			"Find":            func() (fixtures, api.Errno) { return patch.Find(l, p, 9) },
			"Put":             func() (fixtures, api.Errno) { return patch.Put(l, p, at(9, 1, "par", 5, 5)) },
			"Put at the end":  func() (fixtures, api.Errno) { return patch.Put(l, p, at(8, 1, "par", 5, 5)) },
			"Move":            func() (fixtures, api.Errno) { return patch.Move(l, p, l[2], at(1, 1, "", 5, 5)) },
			"Drop":            func() (fixtures, api.Errno) { got, _, e := patch.Drop(l, p, 4, 2); return got, e },
			"Drop of nothing": func() (fixtures, api.Errno) { got, _, e := patch.Drop(l, p, 3, 3); return got, e },
		} {
			got, e := change()
			if len(got) == 0 || e != api.OK {
				t.Errorf("%s: got %v, %d", name, got, e)
			}
			clear(got[:cap(got)])
		}
		attrs, e := patch.Attrs(l, p, 9)
		clear(attrs[:cap(attrs)])
		_, f, _, e1 := patch.First(l, p, api.Param{Channel: 9, Attr: api.AttrZoom})
		clear(f.Wheel[:cap(f.Wheel)])
		_, _, _, e2 := patch.At(l, p, 1, 1)
		_, e3 := patch.Free(l, p, 1, 1)
		_, e4 := patch.Used(l, p, 1)
		if e+e1+e2+e3+e4+patch.Check(l, p) != api.OK {
			t.Errorf("got the errors %v", []api.Errno{e, e1, e2, e3, e4})
		}
	}
	if !slices.Equal(l[:n+2], append(stage(), spare, spare)) {
		t.Errorf("the fixtures have become %v", l[:n+2])
	}
	if !reflect.DeepEqual(p[:len(p)+1], append(types(), api.Profile{Name: "spare"})) {
		t.Errorf("the profiles have become %v", p[:len(p)+1])
	}
}

// anyInt returns an int that may be of any size, and is often right.
func anyInt(r *rand.Rand, most int) int {
	if r.Intn(40) > 0 {
		return 1 + r.Intn(most)
	}
	return []int{0, -1, most, most + 1, math.MinInt, math.MaxInt, 1 << 32}[r.Intn(7)]
}

// anyFixture returns a fixture with any fields, of which many are right.
func anyFixture(r *rand.Rand) api.Fixture {
	return api.Fixture{
		Channel: anyInt(r, api.MaxChannel), Part: anyInt(r, api.MaxFixtures), Profile: types()[r.Intn(1+r.Intn(len(types())))].Name, Universe: anyInt(r, api.MaxUniverses),
		Address: anyInt(r, api.MaxSlots), Phase: anyInt(r, 3), Cable: []string{"", "a", "b", "", "A b"}[r.Intn(4+r.Intn(10)/9)],
	}
}

// TestAnyArgumentsEnd hands any fixtures to all functions: they end, with nothing beside an error.
func TestAnyArgumentsEnd(t *testing.T) {
	r := rand.New(rand.NewSource(7))
	right := 0
	for range 6000 {
		l := make(fixtures, r.Intn([]int{2, 4, 70}[r.Intn(3)]))
		for i := range l {
			l[i] = anyFixture(r)
		}
		p := types()
		r.Shuffle(len(p), func(i, j int) { p[i], p[j] = p[j], p[i] })
		want := patch.Check(l, p)
		if want == api.OK {
			right++
		}
		n, m, x, y := anyInt(r, 20), anyInt(r, 40), anyFixture(r), anyFixture(r)
		found, e1 := patch.Find(l, p, n)
		_, _, used, e2 := patch.At(l, p, n, m)
		attrs, e3 := patch.Attrs(l, p, n)
		_, _, has, e4 := patch.First(l, p, api.Param{Channel: n, Attr: m})
		count, e5 := patch.Used(l, p, n)
		_, dropped, e6 := patch.Drop(l, p, n, m)
		for i, e := range []api.Errno{e1, e2, e3, e4, e5, e6} {
			if e != want {
				t.Errorf("the function %d of %v: got %d, want %d", i, l, e, want)
			}
		}
		if want != api.OK && (len(found) > 0 || used || len(attrs) > 0 || has || count > 0 || dropped) {
			t.Errorf("got %v, %v, %v, %v, %v, %v beside %d", found, used, attrs, has, count, dropped, want)
		}
		address, e := patch.Free(l, p, n, m)
		put, f := patch.Put(l, p, x)
		moved, g := patch.Move(l, p, x, y)
		if want != api.OK && (e != want || f != want || g != want) || (address == 0) != (e != api.OK) || (len(put) == 0) != (f != api.OK) || (len(moved) == 0) != (g != api.OK) {
			t.Errorf("%v: got %d, %d, %v, %d, %v, %d, want %d", l, address, e, put, f, moved, g, want)
		}
		if cmp.Or(f, patch.Check(put, p)) != f || cmp.Or(g, patch.Check(moved, p)) != g {
			t.Errorf("%v: got %v and %v, which are not patched", l, put, moved)
		}
	}
	if right < 600 {
		t.Errorf("only %d of the lists were right", right)
	}
}

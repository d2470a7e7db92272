package universe_test

import (
	"cmp"
	"math"
	"math/big"
	"math/rand"
	"reflect"
	"slices"
	"strconv"
	"testing"

	"luminaire/api"
	"luminaire/universe"
)

// sampleCurve returns a curve, which may rise and fall.
func sampleCurve(r *rand.Rand) []api.Point {
	xs := []int{0, api.MaxLevel}
	for range r.Intn(5) {
		xs = append(xs, r.Intn(api.MaxLevel))
	}
	slices.Sort(xs)
	var c []api.Point
	for _, x := range slices.Compact(xs) {
		c = append(c, api.Point{X: x, Y: r.Intn(api.MaxLevel + 1)})
	}
	return c
}

// rise exchanges the levels of a curve, so that it rises.
func rise(c []api.Point) {
	ys := make([]int, len(c))
	for i, p := range c {
		ys[i] = p.Y
	}
	slices.Sort(ys)
	for i := range c {
		c[i].Y = ys[i]
	}
}

// sampleProfile returns a profile whose features stand at any offsets.
func sampleProfile(r *rand.Rand, name string, curves int) api.Profile {
	p := api.Profile{Name: name, Footprint: 1 + r.Intn(12)}
	free, attrs := r.Perm(p.Footprint), r.Perm(api.Attrs)
	for _, attr := range attrs[:r.Intn(5)] {
		f := api.Feature{Attr: attr, Bits: []int{8, 16}[r.Intn(2)], Curve: r.Intn(curves + 1), Home: r.Intn(api.MaxLevel + 1)}
		if len(free) < f.Bits/8 {
			break
		}
		f.Coarse, free = free[0], free[1:]
		if f.Bits == 16 {
			f.Fine, free = free[0], free[1:]
		}
		f.Low, f.High = r.Intn(1<<f.Bits), r.Intn(1<<f.Bits)
		f.Low, f.High = min(f.Low, f.High), max(f.Low, f.High)
		p.Features = append(p.Features, f)
	}
	return p
}

// sampleRig returns a rig with few channels, so that many of them have parts, and few universes.
func sampleRig(r *rand.Rand) rig {
	var g rig
	for range r.Intn(4) {
		g.Curves = append(g.Curves, sampleCurve(r))
	}
	for i := range 1 + r.Intn(5) {
		g.Profiles = append(g.Profiles, sampleProfile(r, "p"+strconv.Itoa(i), len(g.Curves)))
	}
	next := map[int]int{}
	for part := range r.Intn(12) {
		x := at(1+r.Intn(6), 1+part, g.Profiles[r.Intn(len(g.Profiles))].Name, 1+r.Intn(4)*2, 0)
		x.Address = next[x.Universe] + 1 + r.Intn(3)
		next[x.Universe] = x.Address + profileOf(g, x).Footprint - 1
		g.Fixtures = append(g.Fixtures, x)
	}
	r.Shuffle(len(g.Fixtures), func(i, j int) { g.Fixtures[i], g.Fixtures[j] = g.Fixtures[j], g.Fixtures[i] })
	return g
}

// profileOf returns the profile of a fixture.
func profileOf(g rig, x api.Fixture) api.Profile {
	return g.Profiles[slices.IndexFunc(g.Profiles, func(p api.Profile) bool { return p.Name == x.Profile })]
}

// sampleLevel returns a level, which need not be an integer.
func sampleLevel(r *rand.Rand) api.Rat {
	den := []int64{1, 2, 3, 257, 1 + r.Int63n(1<<40)}[r.Intn(5)]
	return api.Rat(big.NewRat(r.Int63n(api.MaxLevel*den+1), den).RatString())
}

// sampleAmounts returns amounts of some parameters of few channels.
func sampleAmounts(r *rand.Rand) amounts {
	var l amounts
	for channel := 1; channel <= 6; channel++ {
		for attr := range api.Attrs {
			if r.Intn(2) == 0 {
				l = append(l, api.Amount{Param: api.Param{Channel: channel, Attr: attr}, Level: sampleLevel(r)})
			}
		}
	}
	return l
}

// levelAt returns the level of a parameter.
func levelAt(l amounts, p api.Param, home int) *big.Rat {
	for _, a := range l {
		if a.Param == p {
			v, _ := new(big.Rat).SetString(string(a.Level))
			return v
		}
	}
	return big.NewRat(int64(home), 1)
}

// rawAt returns the raw value of a feature at a level, as the document defines it.
func rawAt(g rig, f api.Feature, v *big.Rat) int {
	c := straight()
	if f.Curve > 0 {
		c = g.Curves[f.Curve-1]
	}
	i := 1
	for v.Cmp(big.NewRat(int64(c[i].X), 1)) > 0 {
		i++
	}
	a, b := c[i-1], c[i]
	y := new(big.Rat).Sub(v, big.NewRat(int64(a.X), 1))
	y.Mul(y, big.NewRat(int64(b.Y-a.Y), int64(b.X-a.X)))
	y.Add(y, big.NewRat(int64(a.Y), 1))
	y.Mul(y, big.NewRat(int64(f.High-f.Low), api.MaxLevel))
	y.Add(y, big.NewRat(1, 2))
	return f.Low + int(new(big.Int).Div(y.Num(), y.Denom()).Int64())
}

// framesOf returns the frames of a rig, slot by slot.
func framesOf(g rig, l amounts) frames {
	slots := map[int]*[api.MaxSlots]byte{}
	for _, x := range g.Fixtures {
		if slots[x.Universe] == nil {
			slots[x.Universe] = new([api.MaxSlots]byte)
		}
		for _, f := range profileOf(g, x).Features {
			raw := rawAt(g, f, levelAt(l, api.Param{Channel: x.Channel, Attr: f.Attr}, f.Home))
			if f.Bits == 16 {
				slots[x.Universe][x.Address+f.Fine-1] = byte(raw % 256)
				raw /= 256
			}
			slots[x.Universe][x.Address+f.Coarse-1] = byte(raw)
		}
	}
	var all frames
	for number := 1; number <= api.MaxUniverses; number++ {
		if slots[number] != nil {
			all = append(all, api.Frame{Universe: number, Slots: string(slots[number][:])})
		}
	}
	return all
}

// TestFramesOfAnyRig compares the frames with those that are computed slot by slot. Nothing is outside in them.
func TestFramesOfAnyRig(t *testing.T) {
	r := rand.New(rand.NewSource(1))
	varied := 0
	for range 400 {
		g := sampleRig(r)
		if e := universe.Check(g); e != api.OK {
			t.Errorf("Check(%v): got %d", g, e)
		}
		home := framesOf(g, nil)
		for range 3 {
			l := sampleAmounts(r)
			got, e := universe.Frames(g, l)
			want := framesOf(g, l)
			if !slices.Equal(got, want) || e != api.OK || universe.Right(got) != api.OK {
				t.Errorf("Frames(%v, %v): got %s, %d, want %s", g, l, text(got), e, text(want))
			}
			if out, e := universe.Outside(g, got); len(out) != 0 || e != api.OK {
				t.Errorf("Outside(%v) in %s: got %v, %d", g, text(got), out, e)
			}
			if !slices.Equal(got, home) {
				varied++
			}
		}
	}
	if varied < 800 {
		t.Errorf("only %d of the frames differ from those without amounts", varied)
	}
}

// TestFramesDependOnTheirParameters changes the amounts of one parameter: the slots of other fixtures stay as they are,
// and slots of no fixture are 0.
func TestFramesDependOnTheirParameters(t *testing.T) {
	r := rand.New(rand.NewSource(2))
	changed := 0
	for range 300 {
		g, l := sampleRig(r), sampleAmounts(r)
		if len(l) == 0 {
			continue
		}
		i := r.Intn(len(l))
		p := l[i].Param
		other := slices.Clone(l)
		other[i].Level = sampleLevel(r)
		if r.Intn(2) == 0 {
			other = slices.Delete(other, i, i+1)
		}
		a, e1 := universe.Frames(g, l)
		b, e2 := universe.Frames(g, other)
		if e1 != api.OK || e2 != api.OK {
			t.Errorf("Frames(%v): got %d and %d", g, e1, e2)
		}
		used, own := slotsOf(g, func(api.Param) bool { return true }), slotsOf(g, func(q api.Param) bool { return p == q })
		for j, f := range a {
			for k := range api.MaxSlots {
				s := [2]int{f.Universe, k + 1}
				if !used[s] && (f.Slots[k] != 0 || b[j].Slots[k] != 0) {
					t.Errorf("%v: the slot %v, which no feature has, is %d and %d", g, s, f.Slots[k], b[j].Slots[k])
				}
				if f.Slots[k] != b[j].Slots[k] {
					changed++
					if !own[s] {
						t.Errorf("%v: the slot %v depends on %v", g, s, p)
					}
				}
			}
		}
	}
	if changed < 40 {
		t.Errorf("only %d slots have changed", changed)
	}
}

// slotsOf returns the slots of the features whose parameters fulfil a condition.
func slotsOf(g rig, holds func(p api.Param) bool) map[[2]int]bool {
	slots := map[[2]int]bool{}
	for _, x := range g.Fixtures {
		for _, f := range profileOf(g, x).Features {
			if holds(api.Param{Channel: x.Channel, Attr: f.Attr}) {
				slots[[2]int{x.Universe, x.Address + f.Coarse}] = true
				if f.Bits == 16 {
					slots[[2]int{x.Universe, x.Address + f.Fine}] = true
				}
			}
		}
	}
	return slots
}

// sampleFrames returns frames with any bytes for the universes of a rig, and perhaps for others.
func sampleFrames(r *rand.Rand, g rig) frames {
	var l frames
	for number := 1; number <= api.MaxUniverses; number++ {
		if r.Intn(3) > 0 && !slices.ContainsFunc(g.Fixtures, func(x api.Fixture) bool { return x.Universe == number }) {
			continue
		}
		slots := make([]byte, api.MaxSlots)
		r.Read(slots)
		l = append(l, api.Frame{Universe: number, Slots: string(slots)})
	}
	return l
}

// rawOf returns the raw value of a feature of a fixture in frames.
func rawOf(l frames, x api.Fixture, f api.Feature) int {
	slots := l[slices.IndexFunc(l, func(f api.Frame) bool { return f.Universe == x.Universe })].Slots[x.Address-1:]
	if f.Bits == 8 {
		return int(slots[f.Coarse])
	}
	return 256*int(slots[f.Coarse]) + int(slots[f.Fine])
}

// TestRawValuesOfAnyFrames compares the raw values, and the parameters that are outside, with those of all parts.
func TestRawValuesOfAnyFrames(t *testing.T) {
	r := rand.New(rand.NewSource(3))
	found, inside := 0, 0
	for range 300 {
		g := sampleRig(r)
		l := sampleFrames(r, g)
		var want []api.Param
		for channel := 1; channel <= 6; channel++ {
			for attr := range api.Attrs {
				p := api.Param{Channel: channel, Attr: attr}
				first, raw, out := math.MaxInt, 0, false
				for _, x := range g.Fixtures {
					for _, f := range profileOf(g, x).Features {
						if x.Channel != channel || f.Attr != attr {
							continue
						}
						n := rawOf(l, x, f)
						if x.Part < first {
							first, raw = x.Part, n
						}
						out = out || n < f.Low || n > f.High
					}
				}
				e := api.OK
				switch {
				case first == math.MaxInt:
					e = api.ErrNone
				case out:
					found++
					want = append(want, p)
				default:
					inside++
				}
				if got, f := universe.Raw(g, l, p); got != raw || f != e {
					t.Errorf("Raw(%v, %s, %v): got %d, %d, want %d, %d", g, text(l), p, got, f, raw, e)
				}
			}
		}
		if got, e := universe.Outside(g, l); !slices.Equal(got, want) || e != api.OK {
			t.Errorf("Outside(%v, %s): got %v, %d, want %v", g, text(l), got, e, want)
		}
	}
	if found < 200 || inside < 200 {
		t.Errorf("%d parameters were outside, %d inside", found, inside)
	}
}

// TestChangesAreApplied checks that changes, applied to the first frames, give the second ones, and which ones they are.
func TestChangesAreApplied(t *testing.T) {
	r := rand.New(rand.NewSource(4))
	for range 300 {
		a := sampleFrames(r, rig{})
		b := slices.Clone(a)
		var want changes
		for i, f := range a {
			slots := []byte(f.Slots)
			for range r.Intn(20) {
				slots[r.Intn(api.MaxSlots)] = byte(r.Intn(256))
			}
			b[i].Slots = string(slots)
			for j, c := range slots {
				if c != f.Slots[j] {
					want = append(want, universe.Change{Universe: f.Universe, Address: j + 1, Byte: int(c)})
				}
			}
		}
		got, e := universe.Changes(a, b)
		if !slices.Equal(got, want) || e != api.OK {
			t.Errorf("Changes of %s and %s: got %v, %d, want %v", text(a), text(b), got, e, want)
		}
		applied, e := universe.Apply(a, got)
		if !universe.Same(applied, b) || universe.Same(applied, a) != (len(got) == 0) || e != api.OK {
			t.Errorf("Apply to %s of %v: got %s, %d", text(a), got, text(applied), e)
		}
		for _, l := range []frames{a, b} {
			if none, e := universe.Changes(l, l); len(none) != 0 || e != api.OK {
				t.Errorf("Changes of %s and itself: got %v, %d", text(l), none, e)
			}
		}
	}
}

// TestGreaterAmounts checks that the raw value of a parameter whose curves rise does not descend while its amount rises.
func TestGreaterAmounts(t *testing.T) {
	r := rand.New(rand.NewSource(5))
	rose := 0
	for range 150 {
		g := sampleRig(r)
		for _, c := range g.Curves {
			rise(c)
		}
		var params []api.Param
		for _, x := range g.Fixtures {
			for _, f := range profileOf(g, x).Features {
				params = append(params, api.Param{Channel: x.Channel, Attr: f.Attr})
			}
		}
		if len(params) == 0 {
			continue
		}
		p := params[r.Intn(len(params))]
		var levels []api.Rat
		for range 8 {
			levels = append(levels, sampleLevel(r))
		}
		slices.SortFunc(levels, func(a, b api.Rat) int {
			v, _ := new(big.Rat).SetString(string(a))
			w, _ := new(big.Rat).SetString(string(b))
			return v.Cmp(w)
		})
		last := -1
		for _, v := range levels {
			l, e := universe.Frames(g, amounts{{Param: p, Level: v}})
			raw, f := universe.Raw(g, l, p)
			if raw < last || e != api.OK || f != api.OK {
				t.Errorf("%v has the raw value %d (%d, %d) of %s, and before %d in %v", p, raw, e, f, v, last, g)
			}
			if raw > last && last >= 0 {
				rose++
			}
			last = raw
		}
	}
	if rose < 300 {
		t.Errorf("only %d raw values were greater", rose)
	}
}

// TestListsAreNotShared checks that arguments stay as they are, beyond their length too, and that results are new.
func TestListsAreNotShared(t *testing.T) {
	spare := universe.Change{Universe: 9, Address: 9, Byte: 9}
	g := stage()
	g.Fixtures = append(g.Fixtures, api.Fixture{Channel: 77})[:len(g.Fixtures)]
	g.Profiles = append(g.Profiles, api.Profile{Name: "spare"})[:len(g.Profiles)]
	g.Curves = append(g.Curves, nil)[:len(g.Curves)]
	l := append(amounts{{Param: intensity(4), Level: "5"}, {Param: pan(4), Level: "6"}}, api.Amount{Level: "spare"})[:2]
	a := append(home(), api.Frame{Universe: 9})[:3]
	c := append(changes{{2, 1, 5}, {5, 1, 6}}, spare)[:2]
	for range 2 {
		made, e := universe.Frames(g, l)
		clear(made[:cap(made)])
		applied, e1 := universe.Apply(a, c)
		clear(applied[:cap(applied)])
		found, e2 := universe.Changes(a, set(a, 2, 5, 9))
		clear(found[:cap(found)])
		same, e3 := universe.Apply(a, nil)
		clear(same[:cap(same)])
		out, e4 := universe.Outside(g, frames{frame(2), frame(5), frame(8)})
		clear(out[:cap(out)])
		_, e5 := universe.Raw(g, a, pan(4))
		_, e6 := universe.Slot(a, 2, 5)
		if n := len(made) + len(applied) + len(found) + len(same) + len(out); n != 12 || cmp.Or(e, e1, e2, e3, e4, e5, e6, universe.Check(g), universe.Right(a)) != api.OK {
			t.Errorf("got %d results, and the errors %v", n, []api.Errno{e, e1, e2, e3, e4, e5, e6})
		}
	}
	want := stage()
	want.Fixtures, want.Profiles, want.Curves = append(want.Fixtures, api.Fixture{Channel: 77}), append(want.Profiles, api.Profile{Name: "spare"}), append(want.Curves, nil)
	if got := (rig{g.Curves[:3], g.Profiles[:4], g.Fixtures[:5]}); !reflect.DeepEqual(got, want) {
		t.Errorf("the rig has become %v", got)
	}
	if !slices.Equal(l[:3], amounts{{Param: intensity(4), Level: "5"}, {Param: pan(4), Level: "6"}, {Level: "spare"}}) {
		t.Errorf("the amounts have become %v", l[:3])
	}
	if !slices.Equal(a[:4], append(home(), api.Frame{Universe: 9})) || !slices.Equal(c[:3], changes{{2, 1, 5}, {5, 1, 6}, spare}) {
		t.Errorf("the frames have become %s, and the changes %v", text(a[:4]), c[:3])
	}
}

// anyInt returns an int that is often from 1 to a limit.
func anyInt(r *rand.Rand, most int) int {
	if r.Intn(60) > 0 {
		return 1 + r.Intn(most)
	}
	return outside(most)[r.Intn(7)]
}

// anyRig returns a rig that is often right.
func anyRig(r *rand.Rand) rig {
	g := sampleRig(r)
	for i := range g.Curves {
		if r.Intn(30) == 0 {
			g.Curves[i][0].Y = anyInt(r, api.MaxLevel)
			g.Curves[i] = g.Curves[i][r.Intn(2):]
		}
	}
	for _, p := range g.Profiles {
		for i := range p.Features {
			if r.Intn(30) == 0 {
				f := &p.Features[i]
				*[]*int{&f.Attr, &f.Bits, &f.Coarse, &f.Fine, &f.Curve, &f.Home, &f.Low, &f.High}[r.Intn(8)] = anyInt(r, 16)
			}
		}
	}
	for i := range g.Fixtures {
		if r.Intn(30) == 0 {
			x := &g.Fixtures[i]
			*[]*int{&x.Channel, &x.Part, &x.Universe, &x.Address, &x.Phase}[r.Intn(5)] = anyInt(r, 3)
		}
	}
	return g
}

// anyFrames returns frames that are often right.
func anyFrames(r *rand.Rand, g rig) frames {
	l := sampleFrames(r, g)
	for i := range l {
		if r.Intn(30) == 0 {
			l[i].Universe = anyInt(r, api.MaxUniverses)
		}
		if r.Intn(60) == 0 {
			l[i].Slots = l[i].Slots[r.Intn(api.MaxSlots):]
		}
	}
	return l
}

// anyAmounts returns amounts that are often right.
func anyAmounts(r *rand.Rand) amounts {
	l := sampleAmounts(r)
	for i := range l {
		if r.Intn(100) == 0 {
			l[i].Level = []api.Rat{"", "x", "-1", "65536", "1/0", "2/2"}[r.Intn(6)]
		}
		if r.Intn(100) == 0 {
			l[i].Param = api.Param{Channel: anyInt(r, api.MaxChannel), Attr: anyInt(r, api.Attrs)}
		}
	}
	return l
}

// TestAnyArgumentsEnd hands any arguments to all functions: they end, with nothing beside an error.
func TestAnyArgumentsEnd(t *testing.T) {
	r := rand.New(rand.NewSource(6))
	rights := 0
	for range 1500 {
		g := anyRig(r)
		l, m := anyFrames(r, g), anyFrames(r, g)
		rigs, right := universe.Check(g), universe.Right(l)
		if rigs == api.OK && right == api.OK {
			rights++
		}
		made, e := universe.Frames(g, anyAmounts(r))
		if rigs != api.OK && e != rigs || e != api.OK && len(made) > 0 || universe.Right(made) != api.OK {
			t.Errorf("Frames(%v): got %s, %d", g, text(made), e)
		}
		b, e := universe.Slot(l, anyInt(r, api.MaxUniverses), anyInt(r, api.MaxSlots))
		if right != api.OK && e != right || e != api.OK && b != 0 || b < 0 || b > 255 {
			t.Errorf("Slot of %s: got %d, %d", text(l), b, e)
		}
		raw, e := universe.Raw(g, l, api.Param{Channel: anyInt(r, 6), Attr: anyInt(r, api.Attrs) - 1})
		if cmp.Or(rigs, right, e) != e || e != api.OK && raw != 0 || raw < 0 || raw > api.MaxLevel {
			t.Errorf("Raw(%v, %s): got %d, %d", g, text(l), raw, e)
		}
		out, e := universe.Outside(g, l)
		if cmp.Or(rigs, right, e) != e || e != api.OK && len(out) > 0 {
			t.Errorf("Outside(%v, %s): got %v, %d", g, text(l), out, e)
		}
		c, e := universe.Changes(l, m)
		if cmp.Or(right, universe.Right(m), e) != e || e != api.OK && len(c) > 0 {
			t.Errorf("Changes of %s and %s: got %v, %d", text(l), text(m), c, e)
		}
		for range r.Intn(3) {
			c = append(c, universe.Change{Universe: anyInt(r, api.MaxUniverses), Address: anyInt(r, api.MaxSlots), Byte: anyInt(r, 256) - 1})
		}
		applied, e := universe.Apply(l, c)
		if right != api.OK && e != right || e != api.OK && len(applied) > 0 || universe.Right(applied) != api.OK {
			t.Errorf("Apply to %s of %v: got %s, %d", text(l), c, text(applied), e)
		}
		if !universe.Same(l, slices.Clone(l)) || len(l) > 0 && universe.Same(l, l[1:]) {
			t.Errorf("%s is not the same as itself, or as a part of it", text(l))
		}
	}
	if rights < 400 || rights > 1200 {
		t.Errorf("%d of the arguments were right", rights)
	}
}

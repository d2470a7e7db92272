package patch_test

import (
	"slices"
	"testing"

	"luminaire/api"
	"luminaire/patch"
)

// with returns the fixtures of most tests, of which one is replaced.
func with(i int, x api.Fixture) fixtures {
	l := stage()
	l[i] = x
	return l
}

func TestPut(t *testing.T) {
	cable := api.Fixture{Channel: 9, Part: 1, Profile: "spot", Universe: 6, Address: 507, Phase: 3, Cable: "c_1"}
	for _, test := range []struct {
		x    api.Fixture
		want fixtures
	}{
		{at(5, 1, "par", 1, 8), append(stage(), at(5, 1, "par", 1, 8))},
		{at(4, 3, "par", 1, 8), append(stage(), at(4, 3, "par", 1, 8))},
		{at(2, 4, "par", 1, 8), append(stage(), at(2, 4, "par", 1, 8))},
		{at(4, 2, "par", 1, 8), with(0, at(4, 2, "par", 1, 8))},
		{at(4, 2, "par", 1, 7), stage()},
		{at(4, 1, "par", 1, 6), with(1, at(4, 1, "par", 1, 6))},
		{at(9, 1, "head", 1, 95), with(3, at(9, 1, "head", 1, 95))}, // over some of the slots that it had
		{cable, with(3, cable)},
		{at(9, 3, "par", 1, 512), with(5, at(9, 3, "par", 1, 512))},
		{at(999, 64, "full", 8, 1), with(2, at(999, 64, "full", 8, 1))},
	} {
		if got, e := patch.Put(stage(), types(), test.x); !slices.Equal(got, test.want) || e != api.OK {
			t.Errorf("Put(%v): got %v, %d, want %v", test.x, got, e, test.want)
		}
	}
	if got, e := patch.Put(nil, types(), at(1, 1, "par", 1, 1)); !slices.Equal(got, fixtures{at(1, 1, "par", 1, 1)}) || e != api.OK {
		t.Errorf("Put to nothing: got %v, %d", got, e)
	}
}

func TestWrongPut(t *testing.T) {
	for _, test := range []struct {
		x    api.Fixture
		want api.Errno
	}{
		{at(0, 1, "par", 2, 1), api.ErrRange}, {at(1000, 1, "par", 2, 1), api.ErrRange}, {at(5, 0, "par", 2, 1), api.ErrRange}, {at(5, 65, "par", 2, 1), api.ErrRange},
		{at(5, 1, "par", 0, 1), api.ErrRange}, {at(5, 1, "par", 9, 1), api.ErrRange}, {at(5, 1, "par", 2, 0), api.ErrRange}, {at(5, 1, "par", 2, 513), api.ErrRange},
		{api.Fixture{Channel: 5, Part: 1, Profile: "par", Universe: 2, Address: 1}, api.ErrRange}, {api.Fixture{}, api.ErrRange},
		{api.Fixture{Channel: 5, Part: 1, Profile: "par", Universe: 2, Address: 1, Phase: 1, Cable: "C"}, api.ErrName},
		{at(5, 1, "laser", 2, 1), api.ErrNone}, {at(5, 1, "none", 2, 1), api.ErrRange}, {at(5, 1, "most", 2, 1), api.ErrRange}, {at(5, 1, "spot", 2, 508), api.ErrRange},
		{at(5, 1, "par", 1, 7), api.ErrOverlap}, {at(5, 1, "head", 1, 99), api.ErrOverlap}, {at(5, 1, "full", 1, 1), api.ErrOverlap},
		// In place of one that is there.
		{at(4, 2, "laser", 1, 7), api.ErrNone}, {at(4, 2, "long", 1, 1), api.ErrRange}, {at(4, 2, "par", 1, 6), api.ErrOverlap}, {at(4, 1, "spot", 1, 2), api.ErrOverlap},
		{at(4, 2, "par", 1, 100), api.ErrOverlap}, {at(9, 3, "Odd name!", 8, 512), api.ErrRange},
	} {
		if got, e := patch.Put(stage(), types(), test.x); len(got) != 0 || e != test.want {
			t.Errorf("Put(%v): got %v, %d, want %d", test.x, got, e, test.want)
		}
	}
	most := many(api.MaxFixtures)
	if got, e := patch.Put(most, types(), at(99, 1, "par", 1, 512)); len(got) != 0 || e != api.ErrMany {
		t.Errorf("Put of one fixture too many: got %v, %d", got, e)
	}
	if got, e := patch.Put(most, types(), at(0, 1, "par", 1, 512)); len(got) != 0 || e != api.ErrMany {
		t.Errorf("Put of a wrong fixture too many: got %v, %d", got, e)
	}
	last := most[api.MaxFixtures-1]
	last.Address = 512
	if got, e := patch.Put(most, types(), last); len(got) != api.MaxFixtures || got[api.MaxFixtures-1] != last || e != api.OK {
		t.Errorf("Put of the last fixture: got %v, %d", got, e)
	}
	if got, e := patch.Put(most[1:], types(), at(99, 1, "par", 1, 512)); len(got) != api.MaxFixtures || e != api.OK {
		t.Errorf("Put of as many fixtures as possible: got %v, %d", got, e)
	}
}

func TestDrop(t *testing.T) {
	for i, x := range stage() {
		want := slices.Delete(stage(), i, i+1)
		if got, dropped, e := patch.Drop(stage(), types(), x.Channel, x.Part); !slices.Equal(got, want) || !dropped || e != api.OK {
			t.Errorf("Drop(%d, %d): got %v, %v, %d, want %v", x.Channel, x.Part, got, dropped, e, want)
		}
	}
	for _, n := range append(outside(api.MaxChannel), 1, 5, 998) {
		for _, part := range append(outside(api.MaxFixtures), 1, 2, 64) {
			if got, dropped, e := patch.Drop(stage(), types(), n, part); !slices.Equal(got, stage()) || dropped || e != api.OK {
				t.Errorf("Drop(%d, %d): got %v, %v, %d", n, part, got, dropped, e)
			}
		}
	}
	for _, pair := range [][2]int{{4, 3}, {4, 0}, {9, 2}, {2, 4}, {1, 9}, {64, 999}, {4, 1 + 1<<32}} {
		if got, dropped, e := patch.Drop(stage(), types(), pair[0], pair[1]); !slices.Equal(got, stage()) || dropped || e != api.OK {
			t.Errorf("Drop(%v): got %v, %v, %d", pair, got, dropped, e)
		}
	}
	if got, dropped, e := patch.Drop(nil, types(), 1, 1); len(got) != 0 || dropped || e != api.OK {
		t.Errorf("Drop from nothing: got %v, %v, %d", got, dropped, e)
	}
	if got, dropped, e := patch.Drop(fixtures{at(1, 1, "par", 1, 1)}, types(), 1, 1); len(got) != 0 || !dropped || e != api.OK {
		t.Errorf("Drop of the only one: got %v, %v, %d", got, dropped, e)
	}
}

func TestMove(t *testing.T) {
	for _, test := range []struct {
		i, universe, address int
		want                 api.Errno
	}{
		{0, 1, 8, api.OK}, {0, 1, 7, api.OK}, {0, 1, 6, api.ErrOverlap}, {0, 8, 502, api.OK}, {0, 8, 503, api.ErrOverlap}, {1, 1, 8, api.OK}, {1, 1, 2, api.ErrOverlap}, {1, 7, 507, api.OK}, {1, 7, 508, api.ErrRange},
		{3, 1, 95, api.OK}, {3, 1, 101, api.ErrOverlap}, {3, 1, 112, api.OK}, {3, 3, 3, api.ErrOverlap}, {3, 3, 4, api.OK}, {4, 1, 112, api.OK}, {5, 2, 510, api.OK}, {5, 2, 511, api.ErrRange},
		{0, 0, 8, api.ErrRange}, {0, 9, 8, api.ErrRange}, {0, 1, 0, api.ErrRange}, {0, 1, 513, api.ErrRange}, {0, 0, 0, api.ErrRange},
	} {
		x := stage()[test.i]
		from := api.Fixture{Channel: x.Channel, Part: x.Part, Profile: "laser", Universe: -5, Address: 1000, Phase: 9, Cable: "?"}
		to := api.Fixture{Channel: -1, Part: 99, Profile: "most", Universe: test.universe, Address: test.address, Phase: 7, Cable: "!"}
		x.Universe, x.Address = test.universe, test.address
		want := with(test.i, x)
		if test.want != api.OK {
			want = nil
		}
		if got, e := patch.Move(stage(), types(), from, to); !slices.Equal(got, want) || e != test.want {
			t.Errorf("Move(%d to %d, %d): got %v, %d, want %v, %d", test.i, test.universe, test.address, got, e, want, test.want)
		}
	}
	nowhere := fixtures{{}, at(4, 3, "par", 1, 7), at(2, 4, "par", 1, 7), at(0, 1, "par", 1, 7), at(-4, 2, "par", 1, 7), at(1000, 1, "par", 1, 7), at(4, 2+1<<32, "par", 1, 7)}
	for _, from := range nowhere {
		for _, to := range []api.Fixture{{}, at(4, 2, "par", 1, 8), at(4, 2, "par", 1, 1)} {
			if got, e := patch.Move(stage(), types(), from, to); len(got) != 0 || e != api.ErrNone {
				t.Errorf("Move(%v, %v): got %v, %d", from, to, got, e)
			}
		}
	}
	// All but the universe and the address is kept.
	cable := api.Fixture{Channel: 1, Part: 2, Profile: "spot", Universe: 3, Address: 4, Phase: 2, Cable: "c_1"}
	want := cable
	want.Universe, want.Address = 5, 6
	if got, e := patch.Move(fixtures{cable}, types(), cable, at(0, 0, "", 5, 6)); !slices.Equal(got, fixtures{want}) || e != api.OK {
		t.Errorf("Move of a fixture with a cable: got %v, %d", got, e)
	}
}

package group_test

import (
	"slices"
	"testing"

	"luminaire/api"
	"luminaire/group"
)

func TestFans(t *testing.T) {
	const most = api.MaxLevel
	for _, test := range []struct {
		from, to, n int
		fan, centre []int
	}{
		{0, 100, 5, []int{0, 25, 50, 75, 100}, []int{100, 50, 0, 50, 100}},
		{100, 0, 5, []int{100, 75, 50, 25, 0}, []int{0, 50, 100, 50, 0}},
		{0, 100, 4, []int{0, 33, 67, 100}, []int{100, 0, 0, 100}},
		{0, 10, 4, []int{0, 3, 7, 10}, []int{10, 0, 0, 10}}, {10, 0, 4, []int{10, 7, 3, 0}, []int{0, 10, 10, 0}},
		// Halves are rounded up, in both directions.
		{0, 1, 3, []int{0, 1, 1}, []int{1, 0, 1}}, {1, 0, 3, []int{1, 1, 0}, []int{0, 1, 0}}, {3, 8, 3, []int{3, 6, 8}, []int{8, 3, 8}}, {8, 3, 3, []int{8, 6, 3}, []int{3, 8, 3}},
		{0, 1, 5, []int{0, 0, 1, 1, 1}, []int{1, 1, 0, 1, 1}}, {1, 0, 5, []int{1, 1, 1, 0, 0}, []int{0, 1, 1, 1, 0}}, {7, 4, 6, []int{7, 6, 6, 5, 5, 4}, []int{4, 6, 7, 7, 6, 4}}, {4, 7, 6, []int{4, 5, 5, 6, 6, 7}, []int{7, 6, 4, 4, 6, 7}},
		{0, 10, 6, []int{0, 2, 4, 6, 8, 10}, []int{10, 5, 0, 0, 5, 10}}, {0, 9, 7, []int{0, 2, 3, 5, 6, 8, 9}, []int{9, 6, 3, 0, 3, 6, 9}}, {0, 9, 8, []int{0, 1, 3, 4, 5, 6, 8, 9}, []int{9, 6, 3, 0, 0, 3, 6, 9}},
		{5, 5, 4, []int{5, 5, 5, 5}, []int{5, 5, 5, 5}},
		{9, 4, 0, nil, nil}, {9, 4, 1, []int{9}, []int{9}}, {9, 4, 2, []int{9, 4}, []int{9, 9}}, {0, most, 1, []int{0}, []int{0}}, {most, 0, 2, []int{most, 0}, []int{most, most}},
		{0, most, 3, []int{0, 32768, most}, []int{most, 0, most}}, {most, 0, 3, []int{most, 32768, 0}, []int{0, most, 0}}, {0, most, 0, nil, nil},
	} {
		if got, e := group.Fan(test.from, test.to, test.n); !slices.Equal(got, test.fan) || e != api.OK {
			t.Errorf("Fan(%d, %d, %d): got %v, %d, want %v", test.from, test.to, test.n, got, e, test.fan)
		}
		if got, e := group.Centre(test.from, test.to, test.n); !slices.Equal(got, test.centre) || e != api.OK {
			t.Errorf("Centre(%d, %d, %d): got %v, %d, want %v", test.from, test.to, test.n, got, e, test.centre)
		}
	}
}

func TestLongestFans(t *testing.T) {
	fan, e := group.Fan(0, api.MaxList-1, api.MaxList)
	if !slices.Equal(fan, row(0, api.MaxList-1)) || e != api.OK {
		t.Errorf("Fan over as many members as possible: got %v, %d", fan, e)
	}
	half := row(0, api.MaxList/2-1)
	opposite := slices.Clone(half)
	slices.Reverse(opposite)
	centre, e := group.Centre(0, api.MaxList/2-1, api.MaxList)
	if !slices.Equal(centre, append(opposite, half...)) || e != api.OK {
		t.Errorf("Centre over as many members as possible: got %v, %d", centre, e)
	}
}

func TestWrongFans(t *testing.T) {
	levels, sizes := outside(0, api.MaxLevel), outside(0, api.MaxList)
	for _, n := range []int{0, 1, 2, 5, api.MaxList, -1, api.MaxList + 1} {
		for _, v := range levels {
			checkNoFan(t, v, 5, n)
			checkNoFan(t, 5, v, n)
			checkNoFan(t, v, v, n)
		}
	}
	for _, n := range sizes {
		checkNoFan(t, 0, 5, n)
		checkNoFan(t, 5, 0, n)
		checkNoFan(t, -1, 70000, n)
	}
}

// checkNoFan checks that both functions return ErrRange, and nothing beside it.
func checkNoFan(t *testing.T, from, to, n int) {
	t.Helper()
	if got, e := group.Fan(from, to, n); len(got) != 0 || e != api.ErrRange {
		t.Errorf("Fan(%d, %d, %d): got %v, %d", from, to, n, got, e)
	}
	if got, e := group.Centre(from, to, n); len(got) != 0 || e != api.ErrRange {
		t.Errorf("Centre(%d, %d, %d): got %v, %d", from, to, n, got, e)
	}
}

package ranges_test

import (
	"math"
	"slices"
	"testing"

	"luminaire/api"
	"luminaire/ranges"
)

type set = []ranges.Range

// one returns the set of one channel.
func one(channel int) set { return set{{channel, channel}} }

// noRanges returns pairs of ints that are no ranges.
func noRanges() set {
	return set{
		{0, 0}, {0, 1}, {-1, 1}, {-5, -1}, {2, 1}, {999, 998}, {999, 1}, {1, 0}, {1, 1000}, {1000, 1000}, {5, 1 << 32},
		{math.MinInt, 5}, {math.MinInt, math.MaxInt}, {5, math.MaxInt}, {5, math.MinInt}, {math.MaxInt, math.MaxInt},
		{math.MaxInt, math.MinInt},
	}
}

// everySecond returns the set with the most ranges.
func everySecond() set {
	var l set
	for channel := 1; channel <= api.MaxChannel; channel += 2 {
		l = append(l, ranges.Range{From: channel, To: channel})
	}
	return l
}

// wrong is a list of ranges that is no set, with the error of Check.
type wrong struct {
	name string
	l    set
	want api.Errno
}

func wrongSets() []wrong {
	tests := []wrong{
		{"next to each other", set{{1, 2}, {3, 5}}, api.ErrOrder},
		{"overlapping", set{{1, 3}, {3, 5}}, api.ErrOrder},
		{"within", set{{1, 9}, {3, 5}}, api.ErrOrder},
		{"twice", set{{4, 4}, {4, 4}}, api.ErrOrder},
		{"descending", set{{4, 5}, {1, 1}}, api.ErrOrder},
		{"the last one", append(everySecond(), ranges.Range{From: 999, To: 999}), api.ErrOrder},
		{"the last two are next to each other", set{{1, 2}, {4, 997}, {998, 999}}, api.ErrOrder},
		{"the range before its order", set{{4, 5}, {5, 4}}, api.ErrRange},
		{"the range before its order", set{{4, 5}, {0, 1}}, api.ErrRange},
		{"the order before a later range", set{{4, 5}, {6, 6}, {0, 0}}, api.ErrOrder},
		{"the range before a later order", set{{4, 5}, {0, 0}, {6, 6}}, api.ErrRange},
		{"the first one", set{{0, 1}, {1, 1}}, api.ErrRange},
	}
	for _, r := range noRanges() {
		tests = append(tests, wrong{"no range", set{r}, api.ErrRange}, wrong{"no range behind one", set{{1, 1}, r}, api.ErrRange})
	}
	return tests
}

func TestCheck(t *testing.T) {
	for _, l := range []set{
		nil, {}, one(1), one(999), {{1, 999}}, {{1, 1}, {3, 3}}, {{1, 2}, {4, 5}, {9, 9}}, {{1, 997}, {999, 999}}, everySecond(),
	} {
		if e := ranges.Check(l); e != api.OK {
			t.Errorf("Check(%v): got %d", l, e)
		}
	}
	for _, test := range wrongSets() {
		if e := ranges.Check(test.l); e != test.want {
			t.Errorf("Check of %v (%s): got %d, want %d", test.l, test.name, e, test.want)
		}
	}
}

// TestWrongSets checks that the functions with sets return the error of the first wrong one, and nothing beside it.
func TestWrongSets(t *testing.T) {
	for _, test := range wrongSets() {
		for _, channel := range []int{1, 5, 0} {
			if got, e := ranges.Holds(test.l, channel); got || e != test.want {
				t.Errorf("Holds(%v, %d): got %v, %d, want %d", test.l, channel, got, e, test.want)
			}
		}
		if got, e := ranges.Count(test.l); got != 0 || e != test.want {
			t.Errorf("Count(%v): got %d, %d, want %d", test.l, got, e, test.want)
		}
		if got, e := ranges.List(test.l); len(got) != 0 || e != test.want {
			t.Errorf("List(%v): got %v, %d, want %d", test.l, got, e, test.want)
		}
		if got, e := ranges.Format(test.l); got != "" || e != test.want {
			t.Errorf("Format(%v): got %q, %d, want %d", test.l, got, e, test.want)
		}
		disordered, noRange := set{{4, 5}, {1, 1}}, set{{2, 1}}
		for name, combine := range combinations() {
			for _, pair := range []struct {
				a, b set
				want api.Errno
			}{
				{test.l, nil, test.want}, {nil, test.l, test.want}, {test.l, one(3), test.want}, {one(3), test.l, test.want},
				{test.l, disordered, test.want}, {test.l, noRange, test.want},
				{disordered, test.l, api.ErrOrder}, {noRange, test.l, api.ErrRange},
			} {
				if got, e := combine(pair.a, pair.b); len(got) != 0 || e != pair.want {
					t.Errorf("%s(%v, %v): got %v, %d, want %d", name, pair.a, pair.b, got, e, pair.want)
				}
			}
		}
	}
}

// combinations returns the functions of two sets.
func combinations() map[string]func(a, b set) (set, api.Errno) {
	return map[string]func(a, b set) (set, api.Errno){"Union": ranges.Union, "Minus": ranges.Minus, "Common": ranges.Common}
}

func TestMake(t *testing.T) {
	tests := []struct {
		l, want set
		e       api.Errno
	}{
		{nil, nil, api.OK}, {set{}, nil, api.OK}, {one(7), one(7), api.OK}, {set{{1, 999}}, set{{1, 999}}, api.OK},
		{set{{7, 9}, {1, 3}, {2, 6}}, set{{1, 9}}, api.OK}, {set{{4, 5}, {1, 1}}, set{{1, 1}, {4, 5}}, api.OK},
		{set{{1, 2}, {3, 5}}, set{{1, 5}}, api.OK}, {set{{3, 5}, {1, 2}, {7, 7}}, set{{1, 5}, {7, 7}}, api.OK},
		{set{{1, 9}, {3, 5}}, set{{1, 9}}, api.OK}, {set{{4, 4}, {4, 4}}, one(4), api.OK},
		{set{{999, 999}, {1, 1}, {998, 998}}, set{{1, 1}, {998, 999}}, api.OK},
		{everySecond()[:api.MaxList], everySecond()[:api.MaxList], api.OK},
		{slices.Repeat(set{{1, 999}}, api.MaxList), set{{1, 999}}, api.OK},
		{everySecond()[:api.MaxList+1], nil, api.ErrMany}, {make(set, api.MaxList+1), nil, api.ErrMany},
		{make(set, api.MaxList), nil, api.ErrRange},
		{append(everySecond()[:api.MaxList-1:api.MaxList-1], ranges.Range{}), nil, api.ErrRange},
	}
	for _, test := range tests {
		if got, e := ranges.Make(test.l); !slices.Equal(got, test.want) || e != test.e {
			t.Errorf("Make(%v): got %v, %d, want %v, %d", test.l, got, e, test.want, test.e)
		}
	}
	for _, r := range noRanges() {
		for _, l := range []set{{r}, {r, {1, 5}}, {{1, 5}, r}, {{1, 5}, r, {7, 7}}} {
			if got, e := ranges.Make(l); len(got) != 0 || e != api.ErrRange {
				t.Errorf("Make(%v): got %v, %d, want ErrRange", l, got, e)
			}
		}
	}
}

func TestOf(t *testing.T) {
	all := make([]int, api.MaxEvents)
	for i := range all {
		all[i] = 1 + i*7%api.MaxChannel
	}
	tests := []struct {
		channels []int
		want     set
		e        api.Errno
	}{
		{nil, nil, api.OK}, {[]int{}, nil, api.OK}, {[]int{1}, one(1), api.OK}, {[]int{999}, one(999), api.OK},
		{[]int{5, 3, 4, 9, 3, 11, 10}, set{{3, 5}, {9, 11}}, api.OK}, {[]int{2, 1}, set{{1, 2}}, api.OK},
		{[]int{3, 1}, set{{1, 1}, {3, 3}}, api.OK}, {[]int{999, 1, 998}, set{{1, 1}, {998, 999}}, api.OK}, {[]int{7, 7, 7}, one(7), api.OK},
		{all, set{{1, 999}}, api.OK}, {slices.Repeat([]int{5}, api.MaxEvents), one(5), api.OK},
		{append(slices.Clone(all), 1), nil, api.ErrMany}, {make([]int, api.MaxEvents+1), nil, api.ErrMany},
		{make([]int, api.MaxEvents), nil, api.ErrRange}, {append(slices.Clone(all[1:]), 0), nil, api.ErrRange},
	}
	for _, test := range tests {
		if got, e := ranges.Of(test.channels); !slices.Equal(got, test.want) || e != test.e {
			t.Errorf("Of %d channels: got %v, %d, want %v, %d", len(test.channels), got, e, test.want, test.e)
		}
	}
	for _, channel := range []int{0, -1, 1000, 1 << 32, 1<<32 + 5, math.MinInt, math.MaxInt} {
		for _, channels := range [][]int{{channel}, {1, channel}, {channel, 1}} {
			if got, e := ranges.Of(channels); len(got) != 0 || e != api.ErrRange {
				t.Errorf("Of(%v): got %v, %d, want ErrRange", channels, got, e)
			}
		}
	}
}

func TestHolds(t *testing.T) {
	l := set{{1, 3}, {10, 12}, {500, 500}, {998, 999}}
	for _, channel := range []int{1, 2, 3, 10, 11, 12, 500, 998, 999} {
		if got, e := ranges.Holds(l, channel); !got || e != api.OK {
			t.Errorf("Holds %d: got %v, %d", channel, got, e)
		}
	}
	for _, channel := range []int{0, -1, 4, 9, 13, 499, 501, 997, 1000, 1001, 1 << 32, 1<<32 + 1, math.MinInt, math.MaxInt} {
		if got, e := ranges.Holds(l, channel); got || e != api.OK {
			t.Errorf("Holds %d: got %v, %d", channel, got, e)
		}
	}
	if got, e := ranges.Holds(nil, 1); got || e != api.OK {
		t.Errorf("Holds of the empty set: got %v, %d", got, e)
	}
}

func TestCountAndList(t *testing.T) {
	for _, test := range []struct {
		l    set
		want []int
	}{
		{nil, nil}, {set{}, nil}, {one(1), []int{1}}, {one(999), []int{999}}, {set{{1, 3}, {10, 12}}, []int{1, 2, 3, 10, 11, 12}},
		{set{{7, 8}, {998, 999}}, []int{7, 8, 998, 999}},
	} {
		if got, e := ranges.List(test.l); !slices.Equal(got, test.want) || e != api.OK {
			t.Errorf("List(%v): got %v, %d, want %v", test.l, got, e, test.want)
		}
		if got, e := ranges.Count(test.l); got != len(test.want) || e != api.OK {
			t.Errorf("Count(%v): got %d, %d, want %d", test.l, got, e, len(test.want))
		}
	}
	for _, test := range []struct {
		l    set
		want int
	}{{set{{1, 999}}, 999}, {everySecond(), 500}, {set{{1, 400}, {402, 999}}, 998}} {
		if got, e := ranges.Count(test.l); got != test.want || e != api.OK {
			t.Errorf("Count: got %d, %d, want %d", got, e, test.want)
		}
	}
}

func TestCombinations(t *testing.T) {
	all := set{{1, 999}}
	tests := []struct{ a, b, union, minus, common set }{
		{nil, nil, nil, nil, nil}, {one(5), nil, one(5), one(5), nil}, {nil, one(5), one(5), nil, nil}, {one(5), one(5), one(5), nil, one(5)},
		{set{{1, 3}}, set{{4, 6}}, set{{1, 6}}, set{{1, 3}}, nil}, {set{{4, 6}}, set{{1, 3}}, set{{1, 6}}, set{{4, 6}}, nil},
		{set{{1, 6}}, set{{2, 5}}, set{{1, 6}}, set{{1, 1}, {6, 6}}, set{{2, 5}}},
		{set{{2, 5}}, set{{1, 6}}, set{{1, 6}}, nil, set{{2, 5}}},
		{set{{1, 3}, {10, 12}}, set{{3, 5}, {7, 9}, {12, 12}}, set{{1, 5}, {7, 12}}, set{{1, 2}, {10, 11}}, set{{3, 3}, {12, 12}}},
		{set{{1, 3}}, set{{5, 6}}, set{{1, 3}, {5, 6}}, set{{1, 3}}, nil},
		{all, one(1), all, set{{2, 999}}, one(1)}, {all, one(999), all, set{{1, 998}}, one(999)}, {all, all, all, nil, all},
		{set{{1, 400}}, set{{401, 999}}, all, set{{1, 400}}, nil},
	}
	for _, test := range tests {
		for name, want := range map[string]set{"Union": test.union, "Minus": test.minus, "Common": test.common} {
			if got, e := combinations()[name](test.a, test.b); !slices.Equal(got, want) || e != api.OK {
				t.Errorf("%s(%v, %v): got %v, %d, want %v", name, test.a, test.b, got, e, want)
			}
		}
	}
}

// TestListsAreNotShared checks that arguments stay as they are, beyond their length too, and that results are new.
func TestListsAreNotShared(t *testing.T) {
	room := set{{1, 3}, {5, 9}, {20, 30}, {1, 1}, {1, 1}}
	a, b, before := room[:2], room[2:3], slices.Clone(room)
	numbers := []int{9, 1, 5, 7, 7, 7}
	results := map[string]func() (set, api.Errno){
		"Make":  func() (set, api.Errno) { return ranges.Make(a) },
		"Of":    func() (set, api.Errno) { return ranges.Of(numbers[:3]) },
		"Parse": func() (set, api.Errno) { l, _, e := ranges.Parse("1 thru 3 + 9"); return l, e },
	}
	for name, combine := range combinations() {
		results[name] = func() (set, api.Errno) { return combine(a, b) }
		results[name+" with nothing"] = func() (set, api.Errno) { return combine(a, nil) }
		results[name+" with itself"] = func() (set, api.Errno) { return combine(a, a) }
	}
	for name, result := range results {
		first, e := result()
		kept := slices.Clone(first)
		clear(first[:cap(first)])
		if second, f := result(); !slices.Equal(second, kept) || e != api.OK || f != api.OK {
			t.Errorf("%s: got %v, %d, then %v, %d", name, kept, e, second, f)
		}
	}
	first, _ := ranges.List(a)
	clear(first[:cap(first)])
	if second, e := ranges.List(a); !slices.Equal(second, []int{1, 2, 3, 5, 6, 7, 8, 9}) || e != api.OK {
		t.Errorf("List: got %v, %d", second, e)
	}
	if !slices.Equal(room, before) || !slices.Equal(numbers, []int{9, 1, 5, 7, 7, 7}) {
		t.Errorf("the arguments have become %v and %v", room, numbers)
	}
}

package group_test

import (
	"math"
	"slices"
	"testing"

	"luminaire/api"
	"luminaire/group"
)

type groups = []api.Group

// of returns a group.
func of(number int, channels ...int) api.Group {
	return api.Group{Number: number, Channels: channels}
}

// none is the group beside an error.
func none() api.Group { return api.Group{} }

// equal reports whether groups are equal, one by one.
func equal(a, b groups) bool {
	return slices.EqualFunc(a, b, func(x, y api.Group) bool { return x.Number == y.Number && slices.Equal(x.Channels, y.Channels) })
}

// one returns a list of one group.
func one(g api.Group) groups { return groups{g} }

// stage returns the table of most tests.
func stage() groups {
	return groups{of(2, 7, 5, 9, 1), of(3), of(10, 5, 999), of(api.MaxNumber, 1)}
}

// row returns the channels from one to another.
func row(from, to int) []int {
	var l []int
	for i := from; i <= to; i++ {
		l = append(l, i)
	}
	return l
}

// many returns a table of groups with the numbers from 1 on.
func many(n int) groups {
	l := make(groups, n)
	for i := range l {
		l[i] = of(i+1, i+1)
	}
	return l
}

// outside returns ints that are not from one to another.
func outside(least, most int) []int {
	return []int{least - 1, least - 2, most + 1, most + 1<<32, least - 1<<32, math.MinInt, math.MaxInt}
}

func TestRightGroups(t *testing.T) {
	for _, g := range append(stage(), of(1), of(1, 1), of(1, 999), of(1, []int{}...), of(1, 3, 2, 1), of(5, row(1, api.MaxList)...), of(5, row(api.MaxChannel-api.MaxList+1, api.MaxChannel)...)) {
		if e := group.Check(g); e != api.OK {
			t.Errorf("Check(%v): got %d", g, e)
		}
	}
}

// wrong is a group with its error.
type wrong struct {
	g    api.Group
	want api.Errno
}

// wrongGroups returns groups with errors, among them those with two of which the first one counts.
func wrongGroups() []wrong {
	many := row(1, api.MaxList+1)
	l := []wrong{
		{none(), api.ErrRange}, {of(1, many...), api.ErrMany}, {of(1, make([]int, api.MaxList+1)...), api.ErrMany}, {of(1, row(-9, 1000)...), api.ErrMany}, {of(0, many...), api.ErrRange},
		{of(1, 5, 5), api.ErrTwice}, {of(1, 7, 5, 9, 7), api.ErrTwice}, {of(1, append(row(1, api.MaxList-1), 1)...), api.ErrTwice}, {of(1, append(row(1, api.MaxList-1), 0)...), api.ErrRange},
		{of(1, 7, 7, 0), api.ErrTwice}, {of(1, 7, 0, 7), api.ErrRange}, {of(1, 0, 0), api.ErrRange}, {of(0, 7, 7), api.ErrRange}, {of(0, 0), api.ErrRange}, {of(1, 5, 1000, 1000), api.ErrRange},
	}
	for _, n := range outside(1, api.MaxNumber) {
		l = append(l, wrong{of(n), api.ErrRange}, wrong{of(n, 5, 6), api.ErrRange})
	}
	for _, n := range outside(1, api.MaxChannel) {
		l = append(l, wrong{of(1, n), api.ErrRange}, wrong{of(1, 5, 6, n), api.ErrRange})
	}
	return l
}

// TestWrongGroups checks that all functions with a group return its error first, and nothing beside it.
func TestWrongGroups(t *testing.T) {
	for _, x := range wrongGroups() {
		if e := group.Check(x.g); e != x.want {
			t.Errorf("Check(%.200v): got %d, want %d", x.g, e, x.want)
		}
		if e := group.Table(groups{x.g}); e != x.want {
			t.Errorf("Table of %.200v: got %d, want %d", x.g, e, x.want)
		}
		if got, e := group.Put(stage(), x.g); len(got) != 0 || e != x.want {
			t.Errorf("Put(%.200v): got %v, %d, want %d", x.g, got, e, x.want)
		}
		if got, e := group.Mirror(x.g); !equal(one(got), one(none())) || e != x.want {
			t.Errorf("Mirror(%.200v): got %v, %d, want %d", x.g, got, e, x.want)
		}
		for _, n := range []int{0, 1, -1, api.MaxList + 1} {
			if got, e := group.Every(x.g, n, n); !equal(one(got), one(none())) || e != x.want {
				t.Errorf("Every(%.200v, %d): got %v, %d, want %d", x.g, n, got, e, x.want)
			}
		}
	}
}

func TestRightTables(t *testing.T) {
	for _, l := range []groups{nil, {}, stage(), many(api.MaxGroups), {of(1), of(2)}, {of(1, 5), of(2, 5)}, {of(api.MaxNumber)}, many(5)[2:]} {
		if e := group.Table(l); e != api.OK {
			t.Errorf("Table(%v): got %d", l, e)
		}
	}
}

// TestWrongTables checks that all functions with a table return its error first, and nothing beside it.
func TestWrongTables(t *testing.T) {
	type table struct {
		l    groups
		want api.Errno
	}
	tables := []table{
		{many(api.MaxGroups + 1), api.ErrMany}, {make(groups, api.MaxGroups+1), api.ErrMany}, {make(groups, api.MaxGroups), api.ErrRange},
		{groups{of(5), of(5)}, api.ErrOrder}, {groups{of(5), of(4)}, api.ErrOrder}, {groups{of(1), of(3), of(2)}, api.ErrOrder}, {groups{of(2), of(3), of(2)}, api.ErrOrder},
		// The first group with an error counts, and of its errors the first one.
		{groups{of(5), of(4), of(0)}, api.ErrOrder}, {groups{of(5), of(0), of(4)}, api.ErrRange}, {groups{of(5), of(4, 1, 1)}, api.ErrTwice}, {groups{of(5), of(5, 0)}, api.ErrRange}, {groups{of(5, 1, 1), of(4)}, api.ErrTwice},
	}
	for _, x := range wrongGroups() {
		tables = append(tables, table{groups{of(1), x.g, of(api.MaxNumber)}, x.want})
	}
	for _, test := range tables {
		if e := group.Table(test.l); e != test.want {
			t.Errorf("Table(%.200v): got %d, want %d", test.l, e, test.want)
		}
		for _, n := range []int{1, 5, 0, api.MaxNumber + 1} {
			if got, e := group.Find(test.l, n); !equal(one(got), one(none())) || e != test.want {
				t.Errorf("Find(%.200v, %d): got %v, %d, want %d", test.l, n, got, e, test.want)
			}
			if got, e := group.Drop(test.l, n); len(got) != 0 || e != test.want {
				t.Errorf("Drop(%.200v, %d): got %v, %d, want %d", test.l, n, got, e, test.want)
			}
			for _, g := range []api.Group{of(n), of(n, 1, 1)} {
				if got, e := group.Put(test.l, g); len(got) != 0 || e != test.want {
					t.Errorf("Put(%.200v, %v): got %v, %d, want %d", test.l, g, got, e, test.want)
				}
			}
		}
	}
}

func TestFind(t *testing.T) {
	for _, g := range append(stage(), many(api.MaxGroups)...) {
		l := stage()
		if slices.Equal(g.Channels, []int{g.Number}) {
			l = many(api.MaxGroups)
		}
		if got, e := group.Find(l, g.Number); !equal(one(got), one(g)) || e != api.OK {
			t.Errorf("Find(%v, %d): got %v, %d", l, g.Number, got, e)
		}
	}
	for _, n := range append(outside(1, api.MaxNumber), 1, 4, 9, 11, api.MaxNumber-1, 2+1<<32) {
		for _, l := range []groups{stage(), nil} {
			if got, e := group.Find(l, n); !equal(one(got), one(none())) || e != api.ErrNone {
				t.Errorf("Find(%v, %d): got %v, %d", l, n, got, e)
			}
			if got, e := group.Drop(l, n); len(got) != 0 || e != api.ErrNone {
				t.Errorf("Drop(%v, %d): got %v, %d", l, n, got, e)
			}
		}
	}
}

func TestPut(t *testing.T) {
	l := stage()
	for _, test := range []struct {
		l    groups
		g    api.Group
		want groups
	}{
		{nil, of(5, 1), groups{of(5, 1)}}, {l, of(1, 4), groups{of(1, 4), l[0], l[1], l[2], l[3]}}, {l, of(4, 4), groups{l[0], l[1], of(4, 4), l[2], l[3]}}, {l, of(11), groups{l[0], l[1], l[2], of(11), l[3]}},
		{l[:3], of(11, 3, 2), groups{l[0], l[1], l[2], of(11, 3, 2)}},
		{l, of(2), groups{of(2), l[1], l[2], l[3]}}, {l, of(3, 8), groups{l[0], of(3, 8), l[2], l[3]}}, {l, of(api.MaxNumber, 2, 1), groups{l[0], l[1], l[2], of(api.MaxNumber, 2, 1)}}, {l, l[2], l},
		{many(api.MaxGroups)[1:], of(1, 1), many(api.MaxGroups)}, {many(api.MaxGroups - 1), of(api.MaxGroups, api.MaxGroups), many(api.MaxGroups)}, {many(api.MaxGroups), of(7, 7), many(api.MaxGroups)},
	} {
		if got, e := group.Put(test.l, test.g); !equal(got, test.want) || e != api.OK {
			t.Errorf("Put(%v, %v): got %v, %d, want %v", test.l, test.g, got, e, test.want)
		}
	}
	for _, test := range []struct {
		l    groups
		g    api.Group
		want api.Errno
	}{
		{many(api.MaxGroups), of(api.MaxGroups + 1), api.ErrMany}, {many(api.MaxGroups + 1)[1:], of(1), api.ErrMany}, {many(api.MaxGroups), of(api.MaxNumber, 5), api.ErrMany},
		{many(api.MaxGroups), of(api.MaxNumber + 1), api.ErrRange}, {many(api.MaxGroups), of(99, 1, 1), api.ErrTwice}, {many(api.MaxGroups), of(7, 1, 1), api.ErrTwice},
	} {
		if got, e := group.Put(test.l, test.g); len(got) != 0 || e != test.want {
			t.Errorf("Put(%v, %v): got %v, %d, want %d", test.l, test.g, got, e, test.want)
		}
	}
}

func TestDrop(t *testing.T) {
	for i, g := range stage() {
		want := slices.Delete(stage(), i, i+1)
		if got, e := group.Drop(stage(), g.Number); !equal(got, want) || e != api.OK {
			t.Errorf("Drop(%d): got %v, %d, want %v", g.Number, got, e, want)
		}
	}
	if got, e := group.Drop(groups{of(5, 1)}, 5); len(got) != 0 || e != api.OK {
		t.Errorf("Drop of the only one: got %v, %d", got, e)
	}
}

func TestMirror(t *testing.T) {
	for _, test := range []struct{ g, want api.Group }{
		{of(4, 7, 5, 9), of(4, 9, 5, 7)}, {of(4, 7, 5), of(4, 5, 7)}, {of(4, 7), of(4, 7)}, {of(4), of(4)}, {of(api.MaxNumber, 1, 2, 3, 4), of(api.MaxNumber, 4, 3, 2, 1)},
	} {
		if got, e := group.Mirror(test.g); !equal(one(got), one(test.want)) || e != api.OK {
			t.Errorf("Mirror(%v): got %v, %d, want %v", test.g, got, e, test.want)
		}
	}
}

func TestEvery(t *testing.T) {
	all := of(6, row(1, api.MaxList)...)
	for _, test := range []struct {
		g           api.Group
		step, first int
		want        api.Group
	}{
		{of(4, 7, 5, 9, 1), 2, 1, of(4, 5, 1)}, {of(4, 7, 5, 9, 1), 2, 0, of(4, 7, 9)}, {of(4, 7, 5, 9, 1), 1, 0, of(4, 7, 5, 9, 1)}, {of(4, 7, 5, 9, 1), 1, 2, of(4, 9, 1)}, {of(4, 7, 5, 9, 1), 3, 0, of(4, 7, 1)},
		{of(4, 7, 5, 9, 1), 4, 0, of(4, 7)}, {of(4, 7, 5, 9, 1), api.MaxList, 3, of(4, 1)}, {of(4, 7, 5, 9, 1), 1, 3, of(4, 1)}, {of(4, 7, 5, 9, 1), 1, 4, of(4)}, {of(4, 7, 5, 9, 1), 2, api.MaxList, of(4)}, {of(4), 1, 0, of(4)},
		{all, api.MaxList, 0, of(6, 1)}, {all, api.MaxList, api.MaxList - 1, of(6, api.MaxList)}, {all, 1, api.MaxList, of(6)}, {all, api.MaxList - 1, 0, of(6, 1, api.MaxList)}, {all, 1, 0, all}, {all, 100, 50, of(6, 51, 151, 251)},
	} {
		if got, e := group.Every(test.g, test.step, test.first); !equal(one(got), one(test.want)) || e != api.OK {
			t.Errorf("Every(%v, %d, %d): got %v, %d, want %v", test.g, test.step, test.first, got, e, test.want)
		}
	}
	for _, n := range outside(1, api.MaxList) {
		for _, first := range []int{0, 1, -1} {
			if got, e := group.Every(of(4, 7, 5), n, first); !equal(one(got), one(none())) || e != api.ErrRange {
				t.Errorf("Every in steps of %d: got %v, %d", n, got, e)
			}
		}
	}
	for _, n := range outside(0, api.MaxList) {
		for _, step := range []int{1, 2, api.MaxList, 0} {
			if got, e := group.Every(of(4, 7, 5), step, n); !equal(one(got), one(none())) || e != api.ErrRange {
				t.Errorf("Every from %d on: got %v, %d", n, got, e)
			}
		}
	}
}

func TestSame(t *testing.T) {
	for _, test := range []struct {
		a, b api.Group
		want bool
	}{
		{of(1, 2, 3), of(1, 2, 3), true}, {of(1), of(1, []int{}...), true}, {none(), none(), true}, {of(-5, 0, 0), of(-5, 0, 0), true}, {of(0, row(1, 500)...), of(0, row(1, 500)...), true}, {of(math.MinInt, math.MaxInt), of(math.MinInt, math.MaxInt), true},
		{of(1, 2), of(2, 2), false}, {of(1, 2, 3), of(1, 3, 2), false}, {of(1, 2, 3), of(1, 2), false}, {of(1, 2, 3), of(1, 3), false}, {of(1, 2), of(1), false}, {of(1, 2), of(1, 3), false}, {of(1, 0), of(1), false}, {of(1, 2), of(1+1<<32, 2), false},
		{of(0, row(1, 500)...), of(0, row(1, 499)...), false}, {of(1, 2, 3, 4), of(1, 9, 3, 4), false}, {of(1, 2, 3, 4), of(1, 2, 3, 9), false}, {of(1), of(-1), false},
	} {
		if got := group.Same(test.a, test.b); got != test.want {
			t.Errorf("Same(%v, %v): got %v", test.a, test.b, got)
		}
		if got := group.Same(test.b, test.a); got != test.want {
			t.Errorf("Same(%v, %v): got %v", test.b, test.a, got)
		}
	}
}

package group_test

import (
	"cmp"
	"math/big"
	"math/rand"
	"slices"
	"testing"

	"luminaire/api"
	"luminaire/group"
)

// rounded returns a + (b - a) part / whole, rounded half up.
func rounded(a, b, part, whole int) int {
	v := big.NewRat(int64(part), int64(whole))
	v.Mul(v, big.NewRat(int64(b-a), 1))
	v.Add(v, big.NewRat(int64(a), 1))
	v.Add(v, big.NewRat(1, 2))
	return int(new(big.Int).Div(v.Num(), v.Denom()).Int64()) // which rounds down, because the denominator is positive
}

// sampleLevel returns a level, which is often at an end, or near to another one.
func sampleLevel(r *rand.Rand) int {
	return []int{r.Intn(api.MaxLevel + 1), r.Intn(20), api.MaxLevel, 0, api.MaxLevel - r.Intn(20)}[r.Intn(5)]
}

// TestFansOverAnyMembers compares fans over all numbers of members with those that are computed as the document says.
func TestFansOverAnyMembers(t *testing.T) {
	r := rand.New(rand.NewSource(1))
	for n := range api.MaxList + 1 {
		for range 3 {
			from, to := sampleLevel(r), sampleLevel(r)
			var fan, centre []int
			for i := range n {
				if n == 1 {
					fan, centre = []int{from}, []int{from}
					continue
				}
				fan = append(fan, rounded(from, to, i, n-1))
				d, m := max(2*i-(n-1), (n-1)-2*i), 1-n%2
				if n-1 == m {
					centre = append(centre, from)
					continue
				}
				centre = append(centre, rounded(from, to, d-m, n-1-m))
			}
			if got, e := group.Fan(from, to, n); !slices.Equal(got, fan) || e != api.OK {
				t.Errorf("Fan(%d, %d, %d): got %v, %d, want %v", from, to, n, got, e, fan)
			}
			if got, e := group.Centre(from, to, n); !slices.Equal(got, centre) || e != api.OK {
				t.Errorf("Centre(%d, %d, %d): got %v, %d, want %v", from, to, n, got, e, centre)
			}
			checkFan(t, from, to, n)
			checkCentre(t, from, to, n)
		}
	}
}

// checkFan checks that a fan leads from one level to the other, step by step, and the opposite one back.
func checkFan(t *testing.T, from, to, n int) {
	t.Helper()
	l, e := group.Fan(from, to, n)
	back, f := group.Fan(to, from, n)
	if len(l) != n || len(back) != n || e != api.OK || f != api.OK {
		t.Errorf("Fan(%d, %d, %d): got %v, %d, and back %v, %d", from, to, n, l, e, back, f)
	}
	if n < 2 {
		return
	}
	slices.Reverse(back)
	if l[0] != from || l[n-1] != to || !slices.Equal(l, back) {
		t.Errorf("Fan(%d, %d, %d): got %v, and back %v", from, to, n, l, back)
	}
	if from > to {
		slices.Reverse(l)
	}
	if !slices.IsSorted(l) {
		t.Errorf("Fan(%d, %d, %d): got %v", from, to, n, l)
	}
}

// checkCentre checks that a fan from the centre is symmetric, and leads from the centre to both ends, step by step.
func checkCentre(t *testing.T, from, to, n int) {
	t.Helper()
	l, e := group.Centre(from, to, n)
	if len(l) != n || e != api.OK {
		t.Errorf("Centre(%d, %d, %d): got %v, %d", from, to, n, l, e)
	}
	if n == 0 {
		return
	}
	mirrored := slices.Clone(l)
	slices.Reverse(mirrored)
	half := l[n/2:]
	if !slices.Equal(l, mirrored) || half[0] != from || n > 2 && l[0] != to {
		t.Errorf("Centre(%d, %d, %d): got %v", from, to, n, l)
	}
	if from > to {
		half = mirrored[:(n+1)/2]
	}
	if !slices.IsSorted(half) {
		t.Errorf("Centre(%d, %d, %d): got %v", from, to, n, l)
	}
}

// sampleGroup returns a group with a low number.
func sampleGroup(r *rand.Rand) api.Group {
	size := []int{r.Intn(5), r.Intn(api.MaxList + 1)}[r.Intn(5)/4]
	g := of(1+r.Intn(40), r.Perm(api.MaxChannel)[:size]...)
	for i := range g.Channels {
		g.Channels[i]++
	}
	return g
}

// sampleTable returns a table of groups.
func sampleTable(r *rand.Rand) groups {
	var l groups
	for range r.Intn(api.MaxGroups + 1) {
		g := sampleGroup(r)
		if !slices.ContainsFunc(l, func(x api.Group) bool { return x.Number == g.Number }) {
			l = append(l, g)
		}
	}
	slices.SortFunc(l, func(a, b api.Group) int { return a.Number - b.Number })
	return l
}

// TestPutIsFound checks that what was put is found, that other groups remain, and that dropping it leaves the others.
func TestPutIsFound(t *testing.T) {
	r := rand.New(rand.NewSource(2))
	news, olds := 0, 0
	for range 1500 {
		l, g := sampleTable(r), sampleGroup(r)
		put, e := group.Put(l, g)
		if e != api.OK || group.Table(put) != api.OK {
			t.Errorf("Put(%v, %v): got %v, %d", l, g, put, e)
		}
		if got, e := group.Find(put, g.Number); !group.Same(got, g) || e != api.OK {
			t.Errorf("Find(%v, %d): got %v, %d, want %v", put, g.Number, got, e, g)
		}
		var others groups
		for _, x := range l {
			if x.Number == g.Number {
				continue
			}
			others = append(others, x)
			if got, e := group.Find(put, x.Number); !group.Same(got, x) || e != api.OK {
				t.Errorf("Find(%v, %d): got %v, %d, want %v", put, x.Number, got, e, x)
			}
		}
		if got, e := group.Drop(put, g.Number); !equal(got, others) || e != api.OK {
			t.Errorf("Drop(%v, %d): got %v, %d, want %v", put, g.Number, got, e, others)
		}
		if len(put) != len(others)+1 {
			t.Errorf("Put(%v, %v): got %v", l, g, put)
		}
		if len(others) == len(l) {
			news++
		} else {
			olds++
		}
	}
	if news < 300 || olds < 300 {
		t.Errorf("%d groups were new, and %d there before", news, olds)
	}
}

// TestOrderOfMembers compares mirrored groups, and those of every some channels, with the members at their places.
func TestOrderOfMembers(t *testing.T) {
	r := rand.New(rand.NewSource(3))
	for range 1500 {
		g := sampleGroup(r)
		mirrored, e := group.Mirror(g)
		if mirrored.Number != g.Number || len(mirrored.Channels) != len(g.Channels) || e != api.OK {
			t.Errorf("Mirror(%v): got %v, %d", g, mirrored, e)
		}
		for i, channel := range mirrored.Channels {
			if channel != g.Channels[len(g.Channels)-1-i] {
				t.Errorf("Mirror(%v): got %v", g, mirrored)
			}
		}
		if twice, e := group.Mirror(mirrored); !group.Same(twice, g) || e != api.OK {
			t.Errorf("Mirror(%v): got %v, %d, want %v", mirrored, twice, e, g)
		}
		step, first := 1+r.Intn(1+r.Intn(api.MaxList)), r.Intn(1+r.Intn(api.MaxList+1))
		want := of(g.Number)
		for i, channel := range g.Channels {
			if i >= first && (i-first)%step == 0 {
				want.Channels = append(want.Channels, channel)
			}
		}
		if got, e := group.Every(g, step, first); !group.Same(got, want) || e != api.OK {
			t.Errorf("Every(%v, %d, %d): got %v, %d, want %v", g, step, first, got, e, want)
		}
	}
}

// TestListsAreNotShared checks that arguments stay as they are, beyond their length too, and that results are new.
func TestListsAreNotShared(t *testing.T) {
	spared := func(g api.Group) api.Group {
		g.Channels = append(slices.Clone(g.Channels), 777)[:len(g.Channels)]
		return g
	}
	l := append(stage(), of(9, 9))[:4]
	for i, g := range l {
		l[i] = spared(g)
	}
	g := spared(of(3, 6, 4, 2))
	wipe := func(results groups) {
		for _, x := range results[:cap(results)] {
			clear(x.Channels[:cap(x.Channels)])
		}
		clear(results[:cap(results)])
	}
	for range 2 {
		for name, change := range map[string]func() (groups, api.Errno){
			"Put":        func() (groups, api.Errno) { return group.Put(l, g) },
			"Put behind": func() (groups, api.Errno) { return group.Put(l[:3], spared(of(11, 6))) },
			"Drop":       func() (groups, api.Errno) { return group.Drop(l, 3) },
			"Find":       func() (groups, api.Errno) { x, e := group.Find(l, 2); return one(x), e },
			"Mirror":     func() (groups, api.Errno) { x, e := group.Mirror(g); return one(x), e },
			"Every":      func() (groups, api.Errno) { x, e := group.Every(g, 1, 0); return one(x), e },
		} {
			got, e := change()
			if len(got) == 0 || len(got[0].Channels) == 0 || e != api.OK {
				t.Errorf("%s: got %v, %d", name, got, e)
			}
			wipe(got)
		}
		fan, e1 := group.Fan(0, 9, 5)
		centre, e2 := group.Centre(0, 9, 5)
		clear(fan[:cap(fan)])
		clear(centre[:cap(centre)])
		if !slices.Equal(fan, make([]int, 5)) || !slices.Equal(centre, make([]int, 5)) || cmp.Or(e1, e2) != api.OK {
			t.Errorf("the fans are %v, %d and %v, %d", fan, e1, centre, e2)
		}
	}
	if !equal(l[:5], append(stage(), of(9, 9))) || !equal(one(g), one(of(3, 6, 4, 2))) {
		t.Errorf("the groups have become %v and %v", l[:5], g)
	}
	for _, x := range append(slices.Clone(l), g) {
		if full := x.Channels[:len(x.Channels)+1]; full[len(x.Channels)] != 777 {
			t.Errorf("the channels have become %v", full)
		}
	}
}

// anyInt returns an int that is often from one to another.
func anyInt(r *rand.Rand, least, most int) int {
	if r.Intn(30) > 0 {
		return least + r.Intn(most-least+1)
	}
	return outside(least, most)[r.Intn(7)]
}

// anyTable returns groups that are often a table.
func anyTable(r *rand.Rand) groups {
	l := sampleTable(r)
	if r.Intn(20) == 0 {
		l = append(l, many(api.MaxGroups)...)
	}
	for i := range l {
		switch {
		case r.Intn(60) == 0:
			l[i].Number = anyInt(r, 1, 40)
		case r.Intn(60) == 0 && len(l[i].Channels) > 0:
			l[i].Channels[0] = anyInt(r, 1, api.MaxChannel)
		}
	}
	return l
}

// TestAnyArgumentsEnd hands any arguments to all functions: they end, with nothing beside an error.
func TestAnyArgumentsEnd(t *testing.T) {
	r := rand.New(rand.NewSource(4))
	right := 0
	for range 3000 {
		l, g, n := anyTable(r), sampleGroup(r), anyInt(r, 1, 40)
		if r.Intn(4) == 0 {
			g.Number = anyInt(r, 1, 40)
		}
		want, own := group.Table(l), group.Check(g)
		if want == api.OK {
			right++
		}
		found, e1 := group.Find(l, n)
		dropped, e2 := group.Drop(l, n)
		put, e3 := group.Put(l, g)
		if cmp.Or(want, e1) != e1 || cmp.Or(want, e2) != e2 || cmp.Or(want, own, e3) != e3 || e1 != e2 {
			t.Errorf("%v, %v: got the errors %d, %d, %d, want %d, %d", l, g, e1, e2, e3, want, own)
		}
		if e1 != api.OK && !group.Same(found, none()) || e2 != api.OK && len(dropped) > 0 || (e3 != api.OK) != (len(put) == 0) || cmp.Or(group.Table(dropped), group.Table(put)) != api.OK {
			t.Errorf("%v, %v: got %v, %d, %v, %d, %v, %d", l, g, found, e1, dropped, e2, put, e3)
		}
		mirrored, e4 := group.Mirror(g)
		some, e5 := group.Every(g, anyInt(r, 1, api.MaxList), anyInt(r, 0, api.MaxList))
		if e4 != own || cmp.Or(own, e5) != e5 || e4 != api.OK && !group.Same(mirrored, none()) || e5 != api.OK && !group.Same(some, none()) {
			t.Errorf("%v: got %v, %d, %v, %d", g, mirrored, e4, some, e5)
		}
		from, to, size := anyInt(r, 0, api.MaxLevel), anyInt(r, 0, api.MaxLevel), anyInt(r, 0, api.MaxList)
		fan, e6 := group.Fan(from, to, size)
		centre, e7 := group.Centre(from, to, size)
		if e6 != e7 || e6 != api.OK && len(fan)+len(centre) > 0 || e6 == api.OK && (len(fan) != size || len(centre) != size) {
			t.Errorf("the fans from %d to %d over %d are %v, %d and %v, %d", from, to, size, fan, e6, centre, e7)
		}
	}
	if right < 1000 || right > 2800 {
		t.Errorf("%d of the tables were right", right)
	}
}

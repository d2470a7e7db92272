package glide_test

import (
	"math/big"
	"math/rand"
	"testing"

	"luminaire/api"
	"luminaire/glide"
	"luminaire/ratio"
)

func toBig(v api.Rat) *big.Rat {
	n, _ := new(big.Rat).SetString(string(v))
	return n
}

// at returns the level of a right glide as the document defines it.
func at(g api.Glide, t int) *big.Rat {
	from, to := toBig(g.From), big.NewRat(int64(g.To), 1)
	switch {
	case t < g.Start:
		return from
	case t >= g.Start+g.Time:
		return to
	}
	return mix(from, to, t-g.Start, g.Time)
}

// mix returns the level behind a part of the way.
func mix(from, to *big.Rat, part, whole int) *big.Rat {
	way := new(big.Rat).Sub(to, from)
	return way.Add(from, way.Mul(way, big.NewRat(int64(part), int64(whole))))
}

// sample returns a right glide. Some are jumps, and some rest.
func sample(r *rand.Rand) api.Glide {
	den := 1 + r.Intn(1000)
	from, _ := ratio.Part(r.Intn(api.MaxLevel*den+1), den)
	g := api.Glide{From: from, To: r.Intn(api.MaxLevel + 1), Start: r.Intn(500), Time: r.Intn(1000)}
	switch r.Intn(6) {
	case 0:
		g.Time = 0
	case 1:
		g.From = ratio.Whole(g.To)
	}
	return g
}

// times returns times before, in and behind glides, of all chains that are sampled.
func times(r *rand.Rand) []int {
	l := []int{-1, 0, 1}
	for range 40 {
		l = append(l, r.Intn(2000))
	}
	return l
}

// sampleChain returns a chain: each glide overtakes the one before, which may be over already or not even begun.
func sampleChain(t *testing.T, r *rand.Rand, n int) []api.Glide {
	t.Helper()
	l := []api.Glide{sample(r)}
	for len(l) < n {
		last := l[len(l)-1]
		next, e := glide.Go(last, last.Start+r.Intn(4)*r.Intn(60), r.Intn(api.MaxLevel+1), r.Intn(3)*r.Intn(300))
		if e != api.OK {
			t.Fatalf("Go from %v: got %d", last, e)
		}
		l = append(l, next)
	}
	return l
}

func compare(t *testing.T, a, b api.Rat) int {
	t.Helper()
	order, e := ratio.Compare(a, b)
	if e != api.OK {
		t.Fatalf("Compare(%q, %q): got %d", short(a), short(b), e)
	}
	return order
}

func TestAgainstBig(t *testing.T) {
	r := rand.New(rand.NewSource(1))
	for range 200 {
		g := sample(r)
		for _, time := range append(times(r), g.Start, g.Start+g.Time-1, g.Start+g.Time) {
			got, e := glide.At(g, time)
			if want := at(g, time).RatString(); e != api.OK || string(got) != want {
				t.Errorf("At(%v, %d): got %q, %d, want %s", g, time, got, e, want)
			}
		}
	}
}

// TestGlidesAreMonotone also checks that they stay between their levels, where they begin and end.
func TestGlidesAreMonotone(t *testing.T) {
	r := rand.New(rand.NewSource(2))
	for range 20 {
		g := sample(r)
		to := ratio.Whole(g.To)
		direction := compare(t, to, g.From)
		before := g.From
		for time := g.Start - 2; time <= g.Start+g.Time+2; time++ {
			level, e := glide.At(g, time)
			if e != api.OK {
				t.Fatalf("At(%v, %d): got %d", g, time, e)
			}
			if order := compare(t, level, before); order != 0 && order != direction {
				t.Errorf("%v turns at %d", g, time)
			}
			if order := compare(t, to, level); order != 0 && order != direction {
				t.Errorf("%v is beyond its end at %d", g, time)
			}
			before = level
		}
		if before != to {
			t.Errorf("%v ends at %q", g, before)
		}
	}
}

func TestOvertakingBeginsAtTheLevel(t *testing.T) {
	r := rand.New(rand.NewSource(3))
	for range 300 {
		g := sample(r)
		time := r.Intn(2000)
		next, e := glide.Go(g, time, r.Intn(api.MaxLevel+1), 1+r.Intn(500))
		if e != api.OK || glide.Check(next) != api.OK {
			t.Fatalf("Go(%v, %d): got %v, %d", g, time, next, e)
		}
		level, _ := glide.At(g, time)
		if got, _ := glide.At(next, time); got != level {
			t.Errorf("%v is %q at %d, but what overtakes it begins at %q", g, level, time, got)
		}
		if e := glide.Chain([]api.Glide{g, next}); e != api.OK && time >= g.Start {
			t.Errorf("Chain of %v and %v: got %d", g, next, e)
		}
	}
}

func TestValueIsThatByKnots(t *testing.T) {
	r := rand.New(rand.NewSource(4))
	for range 100 {
		l := sampleChain(t, r, 1+r.Intn(12))
		knots, e := glide.Knots(l)
		if e != api.OK {
			t.Fatalf("Knots(%v): got %d", l, e)
		}
		moments := times(r)
		for _, g := range l {
			moments = append(moments, g.Start-1, g.Start, g.Start+1, g.Start+g.Time)
		}
		for _, time := range moments {
			value, e := glide.Value(l, time)
			read, f := glide.Read(knots, time)
			if value != read || e+f != api.OK {
				t.Fatalf("%v at %d: Value is %q, %d, and by its knots %v %q, %d", l, time, value, e, knots, read, f)
			}
		}
	}
}

// TestLongChains has as many glides as possible, each one overtaken half way by the next one.
func TestLongChains(t *testing.T) {
	l := []api.Glide{{From: "0", To: api.MaxLevel, Time: 2}}
	for len(l) < api.MaxList {
		last := l[len(l)-1]
		next, e := glide.Go(last, last.Start+1, api.MaxLevel-last.To, 2)
		if e != api.OK {
			t.Fatalf("Go from %v: got %d", last, e)
		}
		l = append(l, next)
	}
	last := l[len(l)-1]
	knots, e := glide.Knots(l)
	if e != api.OK || len(knots) != api.MaxList+1 {
		t.Fatalf("Knots: got %d of them, %d", len(knots), e)
	}
	for time := last.Start - 3; time <= last.Start+3; time++ {
		value, e := glide.Value(l, time)
		read, f := glide.Read(knots, time)
		if value != read || e+f != api.OK {
			t.Errorf("at %d: Value is %q, %d, and by knots %q, %d", time, short(value), e, short(read), f)
		}
	}
}

// TestLongLevels has levels of 1000 digits, for which nothing is ErrLarge.
func TestLongLevels(t *testing.T) {
	long := []api.Rat{
		"1/" + power(999), power(999) + "/" + nines(995), nines(1000) + "/" + power(999), nines(999) + "/1" + nines(999),
		"2" + zeros(999) + "/" + nines(1000), "65534" + nines(995) + "/" + power(995),
	}
	for _, from := range long {
		for _, to := range []int{0, 1, api.MaxLevel} {
			g := api.Glide{From: from, To: to, Start: 3, Time: 9_999_991}
			for _, time := range []int{2, 3, 4, 5_000_000, 9_999_993, 9_999_994} {
				want := api.Rat(at(g, time).RatString())
				if got, e := glide.At(g, time); got != want || e != api.OK {
					t.Errorf("At %d from %q to %d: got %q, %d, want %q", time, short(from), to, short(got), e, short(want))
				}
				if got, e := glide.Value([]api.Glide{g}, time); got != want || e != api.OK {
					t.Errorf("Value at %d from %q to %d: got %q, %d, want %q", time, short(from), to, short(got), e, short(want))
				}
			}
		}
		for _, to := range long {
			knots := []glide.Knot{{0, from}, {19_999_999, to}}
			want := api.Rat(mix(toBig(from), toBig(to), 9_999_998, 19_999_999).RatString())
			if got, e := glide.Read(knots, 9_999_998); got != want || e != api.OK {
				t.Errorf("Read from %q to %q: got %q, %d, want %q", short(from), short(to), short(got), e, short(want))
			}
		}
	}
}

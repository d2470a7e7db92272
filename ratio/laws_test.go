package ratio_test

import (
	"math/big"
	"math/rand"
	"testing"

	"luminaire/api"
	"luminaire/ratio"
)

// sample returns a rational number whose numerator and denominator have a random number of bits.
func sample(r *rand.Rand, bits int) api.Rat {
	limit := func() *big.Int { return new(big.Int).Lsh(big.NewInt(1), uint(r.Intn(bits)+1)) }
	num := new(big.Int).Rand(r, limit())
	den := new(big.Int).Rand(r, limit())
	if r.Intn(2) == 0 {
		num.Neg(num)
	}
	return text(new(big.Rat).SetFrac(num, den.Add(den, big.NewInt(1))))
}

// text writes a rational number in the canonical form.
func text(a *big.Rat) api.Rat {
	return api.Rat(a.RatString())
}

func toBig(a api.Rat) *big.Rat {
	n, _ := new(big.Rat).SetString(string(a))
	return n
}

// must returns a result that has no error.
func must(t *testing.T) func(a api.Rat, e api.Errno) api.Rat {
	return func(a api.Rat, e api.Errno) api.Rat {
		t.Helper()
		if e != api.OK {
			t.Fatalf("unexpected error %d", e)
		}
		return a
	}
}

// order compares two numbers whose products are short enough.
func order(t *testing.T, a, b api.Rat) int {
	t.Helper()
	got, e := ratio.Compare(a, b)
	if e != api.OK {
		t.Fatalf("Compare(%q, %q): unexpected error %d", a, b, e)
	}
	return got
}

func TestAgainstBig(t *testing.T) {
	r := rand.New(rand.NewSource(1))
	for _, bits := range []int{3, 8, 30, 64, 200, 1000} {
		for range 150 {
			a, b := sample(r, bits), sample(r, bits)
			x, y := toBig(a), toBig(b)
			want := map[string]*big.Rat{
				"Compare": big.NewRat(int64(x.Cmp(y)), 1),
				"Add":     new(big.Rat).Add(x, y),
				"Sub":     new(big.Rat).Sub(x, y),
				"Mul":     new(big.Rat).Mul(x, y),
				"Mix":     new(big.Rat).Mul(new(big.Rat).Add(x, y), big.NewRat(1, 2)),
			}
			if y.Sign() != 0 {
				want["Div"] = new(big.Rat).Quo(x, y)
			}
			for name, result := range want {
				if got, e := binaries()[name](a, b); e != api.OK || got != text(result) {
					t.Errorf("%s(%q, %q): got %q, %d, want %q", name, a, b, got, e, text(result))
				}
			}
		}
	}
}

func TestField(t *testing.T) {
	r := rand.New(rand.NewSource(2))
	is := must(t)
	for range 300 {
		a, b, c := sample(r, 80), sample(r, 80), sample(r, 80)
		laws := []struct {
			name        string
			left, right api.Rat
		}{
			{"a + b = b + a", is(ratio.Add(a, b)), is(ratio.Add(b, a))},
			{"(a + b) + c = a + (b + c)", is(ratio.Add(is(ratio.Add(a, b)), c)), is(ratio.Add(a, is(ratio.Add(b, c))))},
			{"a + 0 = a", is(ratio.Add(a, "0")), a},
			{"a + -a = 0", is(ratio.Add(a, is(ratio.Neg(a)))), "0"},
			{"a - b = a + -b", is(ratio.Sub(a, b)), is(ratio.Add(a, is(ratio.Neg(b))))},
			{"a b = b a", is(ratio.Mul(a, b)), is(ratio.Mul(b, a))},
			{"(a b) c = a (b c)", is(ratio.Mul(is(ratio.Mul(a, b)), c)), is(ratio.Mul(a, is(ratio.Mul(b, c))))},
			{"a (b + c) = a b + a c", is(ratio.Mul(a, is(ratio.Add(b, c)))),
				is(ratio.Add(is(ratio.Mul(a, b)), is(ratio.Mul(a, c))))},
			{"a 1 = a", is(ratio.Mul(a, "1")), a},
		}
		for _, law := range laws {
			if law.left != law.right {
				t.Errorf("%s for %q, %q, %q: %q and %q", law.name, a, b, c, law.left, law.right)
			}
		}
		if b == "0" {
			continue
		}
		if back := is(ratio.Mul(is(ratio.Div(a, b)), b)); back != a {
			t.Errorf("%q divided by %q and multiplied again: got %q", a, b, back)
		}
		if one := is(ratio.Mul(is(ratio.Div("1", b)), b)); one != "1" {
			t.Errorf("%q times its inverse: got %q", b, one)
		}
	}
}

func TestPartsMakeTheNumber(t *testing.T) {
	r := rand.New(rand.NewSource(3))
	for range 300 {
		a := sample(r, 100)
		num, e := ratio.Num(a)
		den, f := ratio.Den(a)
		if back, g := ratio.Of(num, den); back != a || e+f+g != api.OK {
			t.Errorf("%q has the parts %q and %q, which make %q", a, num, den, back)
		}
	}
}

func TestRoundingIsNear(t *testing.T) {
	r := rand.New(rand.NewSource(4))
	for range 500 {
		a := sample(r, 70)
		floor, e := ratio.Floor(a)
		if above := must(t)(ratio.Sub(a, api.Rat(floor))); e != api.OK || order(t, above, "0") < 0 || order(t, above, "1") >= 0 {
			t.Errorf("Floor(%q): got %q", a, floor)
		}
		nearest, e := ratio.Round(a)
		off := must(t)(ratio.Sub(api.Rat(nearest), a))
		if e != api.OK || order(t, off, "-1/2") <= 0 || order(t, off, "1/2") > 0 {
			t.Errorf("Round(%q): got %q", a, nearest)
		}
	}
}

func TestMixturesLieBetween(t *testing.T) {
	r := rand.New(rand.NewSource(5))
	for range 300 {
		a, b := sample(r, 60), sample(r, 60)
		w := must(t)(ratio.Part(r.Intn(1001), 1000))
		mixed := must(t)(ratio.Mix(a, b, w))
		if order(t, mixed, must(t)(ratio.Min(a, b))) < 0 || order(t, mixed, must(t)(ratio.Max(a, b))) > 0 {
			t.Errorf("Mix(%q, %q, %q): got %q", a, b, w, mixed)
		}
		if back := must(t)(ratio.Mix(b, a, must(t)(ratio.Sub("1", w)))); back != mixed {
			t.Errorf("Mix(%q, %q, 1 - %q): got %q, want %q", b, a, w, back, mixed)
		}
	}
}

func TestClampedLieBetween(t *testing.T) {
	r := rand.New(rand.NewSource(6))
	for range 300 {
		a := sample(r, 12)
		low := r.Intn(200) - 100
		high := low + r.Intn(100)
		got := must(t)(ratio.Clamp(a, low, high))
		if order(t, got, ratio.Whole(low)) < 0 || order(t, got, ratio.Whole(high)) > 0 {
			t.Errorf("Clamp(%q, %d, %d): got %q", a, low, high, got)
		}
		inside := order(t, a, ratio.Whole(low)) >= 0 && order(t, a, ratio.Whole(high)) <= 0
		if inside && got != a {
			t.Errorf("Clamp(%q, %d, %d): got %q", a, low, high, got)
		}
	}
}

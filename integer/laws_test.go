package integer_test

import (
	"math/big"
	"math/rand"
	"testing"

	"luminaire/api"
	"luminaire/integer"
)

// sample returns an integer with a random number of digits. Long runs of 0 and 9 make carries and borrows likely.
func sample(r *rand.Rand, digits int) api.Int {
	text := make([]byte, 1+r.Intn(digits))
	for i := 0; i < len(text); {
		run := 1 + r.Intn(12)
		kind := r.Intn(3)
		for ; run > 0 && i < len(text); run-- {
			text[i] = [3]byte{'0', '9', byte('0' + r.Intn(10))}[kind]
			i++
		}
	}
	n, _ := new(big.Int).SetString(string(text), 10)
	if r.Intn(2) == 0 {
		n.Neg(n)
	}
	return api.Int(n.String())
}

// must returns a result that has no error.
func must(t *testing.T) func(a api.Int, e api.Errno) api.Int {
	return func(a api.Int, e api.Errno) api.Int {
		t.Helper()
		if e != api.OK {
			t.Fatalf("unexpected error %d", e)
		}
		return a
	}
}

func toBig(a api.Int) *big.Int {
	n, _ := new(big.Int).SetString(string(a), 10)
	return n
}

// divide divides with a remainder that has the sign of the divisor.
func divide(a, b *big.Int) (quotient, remainder *big.Int) {
	quotient, remainder = new(big.Int).QuoRem(a, b, new(big.Int))
	if remainder.Sign()*b.Sign() < 0 {
		quotient.Sub(quotient, big.NewInt(1))
		remainder.Add(remainder, b)
	}
	return quotient, remainder
}

func compareWithBig(t *testing.T, a, b api.Int) {
	t.Helper()
	x, y := toBig(a), toBig(b)
	want := map[string]*big.Int{
		"Compare": big.NewInt(int64(x.Cmp(y))),
		"Add":     new(big.Int).Add(x, y),
		"Sub":     new(big.Int).Sub(x, y),
		"Mul":     new(big.Int).Mul(x, y),
		"Gcd":     new(big.Int).GCD(nil, nil, x, y),
	}
	if y.Sign() != 0 {
		want["Quo"], want["Rem"] = divide(x, y)
	}
	for name, result := range want {
		if got, e := binaries()[name](a, b); e != api.OK || string(got) != result.String() {
			t.Errorf("%s(%q, %q): got %q, %d, want %s", name, a, b, got, e, result)
		}
	}
}

func TestAgainstBig(t *testing.T) {
	r := rand.New(rand.NewSource(1))
	for _, digits := range []int{3, 9, 10, 18, 19, 30, 60, 200} {
		for range 300 {
			compareWithBig(t, sample(r, digits), sample(r, digits))
			compareWithBig(t, sample(r, 2*digits), sample(r, digits))
		}
	}
	for range 5 {
		compareWithBig(t, sample(r, api.MaxLong/2), sample(r, api.MaxLong/2))
	}
}

// TestQuotientsOfProducts divides products of factors, and their neighbours, where guessed digits are most often wrong.
func TestQuotientsOfProducts(t *testing.T) {
	r := rand.New(rand.NewSource(2))
	for range 2000 {
		a := must(t)(integer.Mul(sample(r, 50), sample(r, 50)))
		b := sample(r, 40)
		product := must(t)(integer.Mul(a, b))
		for _, step := range []api.Int{"-1", "0", "1"} {
			compareWithBig(t, must(t)(integer.Add(product, step)), b)
		}
	}
}

func TestRing(t *testing.T) {
	r := rand.New(rand.NewSource(3))
	is := must(t)
	for range 500 {
		a, b, c := sample(r, 40), sample(r, 40), sample(r, 40)
		laws := []struct {
			name        string
			left, right api.Int
		}{
			{"a + b = b + a", is(integer.Add(a, b)), is(integer.Add(b, a))},
			{"(a + b) + c = a + (b + c)", is(integer.Add(is(integer.Add(a, b)), c)), is(integer.Add(a, is(integer.Add(b, c))))},
			{"a + 0 = a", is(integer.Add(a, "0")), a},
			{"a - a = 0", is(integer.Sub(a, a)), "0"},
			{"a - b = a + -b", is(integer.Sub(a, b)), is(integer.Add(a, is(integer.Neg(b))))},
			{"a b = b a", is(integer.Mul(a, b)), is(integer.Mul(b, a))},
			{"(a b) c = a (b c)", is(integer.Mul(is(integer.Mul(a, b)), c)), is(integer.Mul(a, is(integer.Mul(b, c))))},
			{"a (b + c) = a b + a c", is(integer.Mul(a, is(integer.Add(b, c)))),
				is(integer.Add(is(integer.Mul(a, b)), is(integer.Mul(a, c))))},
			{"a 1 = a", is(integer.Mul(a, "1")), a},
			{"a 0 = 0", is(integer.Mul(a, "0")), "0"},
		}
		for _, law := range laws {
			if law.left != law.right {
				t.Errorf("%s for %q, %q, %q: %q and %q", law.name, a, b, c, law.left, law.right)
			}
		}
	}
}

func TestOrder(t *testing.T) {
	r := rand.New(rand.NewSource(4))
	for range 500 {
		a, b, c := sample(r, 25), sample(r, 25), sample(r, 25)
		order, _ := integer.Compare(a, b)
		if sign, _ := integer.Sign(must(t)(integer.Sub(a, b))); sign != order {
			t.Errorf("Compare(%q, %q) is %d, but the sign of the difference %d", a, b, order, sign)
		}
		moved, _ := integer.Compare(must(t)(integer.Add(a, c)), must(t)(integer.Add(b, c)))
		if moved != order {
			t.Errorf("adding %q changes the order of %q and %q", c, a, b)
		}
		sign, _ := integer.Sign(c)
		scaled, _ := integer.Compare(must(t)(integer.Mul(a, c)), must(t)(integer.Mul(b, c)))
		if scaled != order*sign {
			t.Errorf("multiplying by %q makes the order of %q and %q %d", c, a, b, scaled)
		}
	}
}

func TestRemainderIsNearerToZero(t *testing.T) {
	r := rand.New(rand.NewSource(5))
	for range 1000 {
		a, b := sample(r, 60), sample(r, 30)
		if b == "0" {
			continue
		}
		quotient, remainder := must(t)(integer.Quo(a, b)), must(t)(integer.Rem(a, b))
		if back := must(t)(integer.Add(must(t)(integer.Mul(quotient, b)), remainder)); back != a {
			t.Errorf("%q by %q: %q and %q make %q", a, b, quotient, remainder, back)
		}
		near, _ := integer.Compare(must(t)(integer.Abs(remainder)), must(t)(integer.Abs(b)))
		signOf, _ := integer.Sign(remainder)
		signBy, _ := integer.Sign(b)
		if near >= 0 || signOf != 0 && signOf != signBy {
			t.Errorf("%q by %q: the remainder is %q", a, b, remainder)
		}
	}
}

func TestIntsComeBack(t *testing.T) {
	r := rand.New(rand.NewSource(6))
	ints := []int{0, 1, -1, 999999999, 1000000000, largest, largest - 1, smallest, smallest + 1}
	for range 500 {
		ints = append(ints, int(r.Uint64())>>r.Intn(64))
	}
	for _, n := range ints {
		if e := integer.Check(integer.Of(n)); e != api.OK {
			t.Errorf("Check(Of(%d)): %d", n, e)
		}
		if got, e := integer.Small(integer.Of(n)); got != n || e != api.OK {
			t.Errorf("Small(Of(%d)): got %d, %d", n, got, e)
		}
	}
}

package record_test

import (
	"encoding/binary"
	"math"
	"math/big"
	"math/rand"
	"slices"
	"testing"

	"luminaire/api"
	"luminaire/record"
)

// visitInts hands ints to a function: all small ones, those next to the powers of 2, and others of all lengths.
func visitInts(visit func(n int)) {
	for n := -20000; n <= 20000; n++ {
		visit(n)
	}
	r := rand.New(rand.NewSource(1))
	for bits := range 64 {
		for near := -2; near <= 2; near++ {
			visit(1<<bits + near)
			visit(-1<<bits + near)
		}
		for range 200 {
			n := int(r.Uint64() >> bits)
			visit(n)
			visit(-n)
		}
	}
}

// z returns the bytes of an int from those of the number 2 n or -2 n - 1, written in groups from the highest one on.
func z(n int) string {
	x := new(big.Int).Mul(big.NewInt(2), big.NewInt(int64(n)))
	if n < 0 {
		x.Sub(x.Neg(x), big.NewInt(1))
	}
	var s []byte
	for i := (max(1, x.BitLen()) - 1) / 7; i >= 0; i-- {
		group := new(big.Int).Rsh(x, uint(7*i))
		s = append([]byte{byte(group.Uint64()&127) | 128}, s...)
	}
	s[len(s)-1] &= 127
	return string(s)
}

func TestIntsComeBack(t *testing.T) {
	visitInts(func(n int) {
		s := record.Int(n)
		if s != z(n) || s != string(binary.AppendVarint(nil, int64(n))) {
			t.Fatalf("Int(%d): got %q, want %q", n, s, z(n))
		}
		for _, before := range []string{"", "\x00", "\xff\xff"} {
			text := before + s + "\x81"
			if got, behind, e := record.GetInt(text, len(before)); got != n || behind != len(before)+len(s) || e != api.OK {
				t.Fatalf("GetInt(%q, %d): got %d, %d, %d, want %d", text, len(before), got, behind, e, n)
			}
		}
		for i := range len(s) {
			if got, behind, e := record.GetInt(s[:i], 0); got != 0 || behind != 0 || e != api.ErrTorn {
				t.Fatalf("GetInt(%q): got %d, %d, %d, want ErrTorn", s[:i], got, behind, e)
			}
		}
	})
}

// intModel reads an int with the decoder of the standard library, and finds out the error from the groups alone.
func intModel(s string) (n, groups int, e api.Errno) {
	for groups < len(s) && s[groups] >= 128 {
		groups++
	}
	groups++ // the last one
	switch {
	case groups > len(s) && len(s) < 10:
		return 0, 0, api.ErrTorn
	case groups > 10:
		return 0, 0, api.ErrForm
	case groups > 1 && s[groups-1] == 0:
		return 0, 0, api.ErrForm
	}
	v, k := binary.Varint([]byte(s))
	if k < 0 {
		return 0, 0, api.ErrForm
	}
	return int(v), k, api.OK
}

// compareWithModel compares what GetInt returns with what the model does. What is read is what would be written.
func compareWithModel(t *testing.T, s string) {
	t.Helper()
	n, groups, e := intModel(s)
	got, behind, f := record.GetInt(s, 0)
	if got != n || behind != groups || f != e {
		t.Errorf("GetInt(%q): got %d, %d, %d, want %d, %d, %d", s, got, behind, f, n, groups, e)
	}
	if f == api.OK && record.Int(got) != s[:behind] {
		t.Errorf("GetInt(%q): got %d, which has the bytes %q", s, got, record.Int(got))
	}
}

func TestAnyBytesOfInts(t *testing.T) {
	some := []byte{0, 1, 2, 3, 126, 127, 128, 129, 130, 254, 255}
	var visit func(s string, rest int)
	visit = func(s string, rest int) {
		compareWithModel(t, s)
		if rest == 0 {
			return
		}
		for _, b := range some {
			visit(s+string([]byte{b}), rest-1)
		}
	}
	visit("", 4)
	r := rand.New(rand.NewSource(2))
	for range 100000 {
		s := make([]byte, r.Intn(14))
		for i := range s {
			s[i] = byte(r.Intn(256)) | 128
			if r.Intn(16) == 0 || i == 9 && r.Intn(2) == 0 {
				s[i] = some[r.Intn(len(some))]
			}
		}
		compareWithModel(t, string(s))
	}
}

// randomText returns up to most bytes, with many that are 0 or 255.
func randomText(r *rand.Rand, most int) string {
	s := make([]byte, r.Intn(most+1))
	for i := range s {
		s[i] = byte(r.Intn(256))
		if r.Intn(4) == 0 {
			s[i] = []byte{0, 255}[r.Intn(2)]
		}
	}
	return string(s)
}

func TestTextsComeBack(t *testing.T) {
	r := rand.New(rand.NewSource(3))
	for range 5000 {
		text, before := randomText(r, []int{5, 300, 20000}[r.Intn(3)]), randomText(r, 5)
		s, e := record.Text(text)
		if e != api.OK || s != z(len(text))+text {
			t.Fatalf("Text(%.20q): got %.20q, %d", text, s, e)
		}
		got, behind, e := record.GetText(before+s+randomText(r, 5), len(before))
		if got != text || behind != len(before)+len(s) || e != api.OK {
			t.Errorf("GetText at %d: got %.20q, %d, %d, want %.20q", len(before), got, behind, e, text)
		}
		torn := before + s[:r.Intn(len(s))]
		if got, behind, e := record.GetText(torn, len(before)); got != "" || behind != 0 || e != api.ErrTorn {
			t.Errorf("GetText(%.20q, %d): got %.20q, %d, %d, want ErrTorn", torn, len(before), got, behind, e)
		}
	}
}

// TestSumIsThatOfProducts computes sums in another way: the upper byte weights each byte by how many there are from it on.
func TestSumIsThatOfProducts(t *testing.T) {
	r := rand.New(rand.NewSource(4))
	for range 5000 {
		s := randomText(r, []int{5, 300, 3000}[r.Intn(3)])
		a, b := 0, 0
		for i := range len(s) {
			a += int(s[i])
			b += int(s[i]) * (len(s) - i)
		}
		if got, want := record.Sum(s), 256*(b%255)+a%255; got != want {
			t.Errorf("Sum(%.20q): got %d, want %d", s, got, want)
		}
	}
}

// randomEntry returns a record with up to most bytes of data.
func randomEntry(r *rand.Rand, most int) record.Entry {
	return record.Entry{Kind: r.Intn(256), Data: randomText(r, most)}
}

// pack returns the bytes of a record.
func pack(t *testing.T, x record.Entry) string {
	t.Helper()
	s, e := record.Pack(x)
	if e != api.OK || len(s) != len(x.Data)+5 {
		t.Fatalf("Pack(%v): got %d bytes, %d", short(x), len(s), e)
	}
	return s
}

func TestRecordsComeBack(t *testing.T) {
	r := rand.New(rand.NewSource(5))
	for range 5000 {
		x, before := randomEntry(r, []int{5, 300, 3000}[r.Intn(3)]), randomText(r, 8)
		s := pack(t, x)
		if got, behind, e := record.Next(before+s+randomText(r, 8), len(before)); got != x || behind != len(before)+len(s) || e != api.OK {
			t.Errorf("Next at %d: got %v, %d, %d, want %v", len(before), short(got), behind, e, short(x))
		}
	}
}

func TestNoBeginningIsARecord(t *testing.T) {
	r := rand.New(rand.NewSource(6))
	for range 300 {
		s := pack(t, randomEntry(r, 300))
		for i := range len(s) {
			if got, behind, e := record.Next("??"+s[:i], 2); got != (record.Entry{}) || behind != 0 || e != api.ErrTorn {
				t.Errorf("Next of %d bytes of %d: got %v, %d, %d, want ErrTorn", i, len(s), got, behind, e)
			}
		}
	}
}

// TestOneByteIsAnother changes each byte of records to each other one.
func TestOneByteIsAnother(t *testing.T) {
	r := rand.New(rand.NewSource(7))
	for range 40 {
		x := randomEntry(r, 30)
		s := pack(t, x)
		behind := randomText(r, 600) // where a greater length finds bytes
		for i := range len(s) {
			for b := range 256 {
				if byte(b) == s[i] || b%255 == int(s[i])%255 && i < len(s)-2 {
					continue
				}
				changed := s[:i] + string([]byte{byte(b)}) + s[i+1:]
				got, at, e := record.Next(changed+behind, 0)
				if e == api.OK && (got == x || at == len(s)) {
					t.Errorf("Next(%q): got %v, the record that had the byte %d at %d", changed, got, s[i], i)
				}
				isLength := i == 1 || i == 2
				if !isLength && e != api.ErrSum {
					t.Errorf("Next(%q): got %d, want ErrSum", changed, e)
				}
			}
		}
	}
}

func TestAllUpToWhereBytesAreMissing(t *testing.T) {
	r := rand.New(rand.NewSource(8))
	for range 300 {
		var l []record.Entry
		starts, s := []int{0}, ""
		for range r.Intn(8) {
			l = append(l, randomEntry(r, 20))
			s += pack(t, l[len(l)-1])
			starts = append(starts, len(s))
		}
		if joined, e := record.Join(l); joined != s || e != api.OK {
			t.Errorf("Join(%v): got %q, %d, want %q", l, joined, e, s)
		}
		for i := range len(s) + 1 {
			whole, complete := slices.BinarySearch(starts, i)
			want := api.OK
			if !complete {
				whole, want = whole-1, api.ErrTorn
			}
			got, at, e := record.All(s[:i])
			if !slices.Equal(got, l[:whole]) || at != starts[whole] || e != want {
				t.Errorf("All of %d bytes of %q: got %v, %d, %d, want %d records, %d, %d", i, s, got, at, e, whole, starts[whole], want)
			}
		}
	}
}

// TestAnyBytesEnd hands random bytes and offsets to all functions, and compares those that read.
func TestAnyBytesEnd(t *testing.T) {
	r := rand.New(rand.NewSource(9))
	for range 50000 {
		s := randomText(r, 12)
		if len(s) > 2 && r.Intn(2) == 0 {
			s = s[:1] + "\x00" + string([]byte{byte(r.Intn(5))}) + s[3:]
		}
		at := r.Intn(16) - 2
		if r.Intn(10) == 0 {
			at = []int{math.MinInt, math.MaxInt}[r.Intn(2)]
		}
		x, behind, e := record.Next(s, at)
		isOffset := at >= 0 && at <= len(s)
		if (e == api.ErrRange) == isOffset || e != api.OK && (x != record.Entry{} || behind != 0) || e == api.OK && pack(t, x) != s[at:behind] {
			t.Errorf("Next(%q, %d): got %v, %d, %d", s, at, x, behind, e)
		}
		text, behind, e := record.GetText(s, at)
		if (e == api.ErrRange) == isOffset || e != api.OK && (text != "" || behind != 0) || e == api.OK && z(len(text))+text != s[at:behind] {
			t.Errorf("GetText(%q, %d): got %q, %d, %d", s, at, text, behind, e)
		}
		l, upTo, e := record.All(s)
		next, _, f := record.Next(s, upTo)
		if joined, _ := record.Join(l); joined != s[:upTo] || (e == api.OK) != (upTo == len(s)) || e != api.OK && (f != e || next != record.Entry{}) {
			t.Errorf("All(%q): got %v, %d, %d", s, l, upTo, e)
		}
	}
}

package record_test

import (
	"math"
	"slices"
	"strings"
	"testing"

	"luminaire/api"
	"luminaire/record"
)

const most = 65535 // the most bytes of a text, and of the data of a record

// The bytes of some records.
const (
	empty   = "\x00\x00\x00\x00\x00"
	example = "\x01\x00\x01A\x47\x43" // that of the document
)

// short returns a record with the beginning of its data, to be shown.
func short(x record.Entry) record.Entry {
	return record.Entry{Kind: x.Kind, Data: x.Data[:min(len(x.Data), 20)]}
}

// a returns n letters.
func a(n int) string { return strings.Repeat("a", n) }

func TestTexts(t *testing.T) {
	for _, test := range []struct{ text, s string }{
		{"", "\x00"}, {"a", "\x02a"}, {"abc", "\x06abc"}, {"\x00", "\x02\x00"}, {"\xff\x80", "\x04\xff\x80"}, {"\u00e9", "\x04\u00e9"}, {a(63), "\x7e" + a(63)}, {a(64), "\x80\x01" + a(64)}, {a(most), "\xfe\xff\x07" + a(most)},
	} {
		if got, e := record.Text(test.text); got != test.s || e != api.OK {
			t.Errorf("Text(%.20q): got %.20q, %d, want %.20q", test.text, got, e, test.s)
		}
		for _, around := range [][2]string{{"", ""}, {"?", ""}, {"", "a"}, {"\x06ab", "\xff"}} {
			s, at := around[0]+test.s+around[1], len(around[0])
			if got, behind, e := record.GetText(s, at); got != test.text || behind != at+len(test.s) || e != api.OK {
				t.Errorf("GetText(%.20q, %d): got %.20q, %d, %d, want %.20q", s, at, got, behind, e, test.text)
			}
		}
	}
}

func TestWrongTexts(t *testing.T) {
	for _, n := range []int{most + 1, most + 2, 1 << 20} {
		if got, e := record.Text(a(n)); got != "" || e != api.ErrLong {
			t.Errorf("Text of %d bytes: got %d bytes, %d, want ErrLong", n, len(got), e)
		}
	}
	for _, test := range []struct {
		name, s string
		at      int
		want    api.Errno
	}{
		{"no text", "\x06", 0, api.ErrTorn}, {"a byte is missing", "\x06ab", 0, api.ErrTorn}, {"all bytes before", "abc\x06", 3, api.ErrTorn}, {"all bytes but one", "\xfe\xff\x07" + a(most-1), 0, api.ErrTorn}, {"nothing behind the greatest length", "\xfe\xff\x07", 0, api.ErrTorn},
		{"a length of -1", "\x01", 0, api.ErrForm}, {"a length of -1 with bytes", "\x01abc", 0, api.ErrForm}, {"a length of -65536", "\xff\xff\x07" + a(most), 0, api.ErrForm}, {"the least length", record.Int(math.MinInt), 0, api.ErrForm},
		{"a length of 65536", "\x80\x80\x08", 0, api.ErrForm}, {"a length of 65536 with bytes", "\x80\x80\x08" + a(most+1), 0, api.ErrForm}, {"the greatest length", record.Int(math.MaxInt) + "abc", 0, api.ErrForm}, {"a length of 2^32", record.Int(1<<32) + "abc", 0, api.ErrForm},
	} {
		if got, behind, e := record.GetText(test.s, test.at); got != "" || behind != 0 || e != test.want {
			t.Errorf("GetText, %s: got %.20q, %d, %d, want %d", test.name, got, behind, e, test.want)
		}
	}
}

func TestSum(t *testing.T) {
	for s, want := range map[string]int{
		"": 0, "\x00": 0, "\x00\x00\x00": 0, "\x01": 257, "\x01\x02": 1027, "\x02\x01": 5*256 + 3, "\x01\x00": 2*256 + 1, "\x00\x01": 257, "\xff": 0, "\xff\xff": 0, "\xfe": 254*256 + 254, "\xfe\x01": 254 * 256, "\xfe\x01\x01": 1, "\xff\x01": 257,
		"\x01\x00\x01A": 71*256 + 67, "\x80": 128*256 + 128, "\x80\x7f": 128 * 256, "\xfe\xfe": 253*256 - 256 + 253, "abcde": 0xc8f0,
	} {
		if got := record.Sum(s); got != want {
			t.Errorf("Sum(%q): got %d, want %d", s, got, want)
		}
	}
}

func TestRecords(t *testing.T) {
	for _, test := range []struct {
		x record.Entry
		s string
	}{
		{record.Entry{}, empty}, {record.Entry{Kind: 1, Data: "A"}, example}, {record.Entry{Kind: 255}, "\xff\x00\x00\x00\x00"}, {record.Entry{Kind: 1}, "\x01\x00\x00\x03\x01"}, {record.Entry{Kind: 254}, "\xfe\x00\x00\xfc\xfe"},
		{record.Entry{Data: "\x00"}, "\x00\x00\x01\x00\x02\x01"}, {record.Entry{Kind: 2, Data: "\xff\x80"}, "\x02\x00\x02\xff\x80\x90\x84"},
		{record.Entry{Data: strings.Repeat("\x00", 255)}, "\x00\x00\xff" + strings.Repeat("\x00", 255) + "\x00\x00"}, {record.Entry{Data: strings.Repeat("\x00", 256)}, "\x00\x01\x00" + strings.Repeat("\x00", 256) + "\x03\x01"},
		{record.Entry{Data: strings.Repeat("\xff", most)}, "\x00\xff\xff" + strings.Repeat("\xff", most) + "\x00\x00"},
	} {
		if got, e := record.Pack(test.x); got != test.s || e != api.OK {
			t.Errorf("Pack(%v): got %.20q, %d, want %.20q", short(test.x), got, e, test.s)
		}
		for _, around := range [][2]string{{"", ""}, {"?", ""}, {"", "\x00"}, {example, example}, {example[:4], example[:4]}} {
			s, at := around[0]+test.s+around[1], len(around[0])
			if got, behind, e := record.Next(s, at); got != test.x || behind != at+len(test.s) || e != api.OK {
				t.Errorf("Next(%.20q, %d): got %v, %d, %d, want %v", s, at, short(got), behind, e, short(test.x))
			}
		}
	}
}

// wrongEntries returns entries that are no records, each with its error.
func wrongEntries() map[record.Entry]api.Errno {
	return map[record.Entry]api.Errno{
		{Kind: -1}: api.ErrRange, {Kind: 256}: api.ErrRange, {Kind: 257, Data: "A"}: api.ErrRange, {Kind: math.MinInt}: api.ErrRange, {Kind: math.MaxInt}: api.ErrRange, {Kind: 1 << 32}: api.ErrRange,
		{Data: a(most + 1)}: api.ErrLong, {Kind: 255, Data: a(most + 1)}: api.ErrLong, {Kind: 1, Data: a(1 << 20)}: api.ErrLong,
		// The kind comes before the length.
		{Kind: 256, Data: a(most + 1)}: api.ErrRange, {Kind: -1, Data: a(1 << 20)}: api.ErrRange,
	}
}

func TestWrongEntries(t *testing.T) {
	right := record.Entry{Kind: 1, Data: "A"}
	for x, want := range wrongEntries() {
		if got, e := record.Pack(x); got != "" || e != want {
			t.Errorf("Pack(%v): got %.20q, %d, want %d", short(x), got, e, want)
		}
		for _, l := range [][]record.Entry{{x}, {x, right}, {right, x}, {right, right, x, {Kind: -1}}, {{}, x, {Data: a(most + 1)}}} {
			if got, e := record.Join(l); got != "" || e != want {
				t.Errorf("Join with %v: got %.20q, %d, want %d", short(x), got, e, want)
			}
		}
	}
	if got, e := record.Join([]record.Entry{right, {Data: a(most + 1)}, {Kind: -1}}); got != "" || e != api.ErrLong {
		t.Errorf("Join: got %.20q, %d, want the error of the first one", got, e)
	}
}

func TestWrongRecords(t *testing.T) {
	large := "\x00\xff\xff" + strings.Repeat("\x00", most) + "\x00\x00"
	for _, test := range []struct {
		name, s string
		at      int
		want    api.Errno
	}{
		{"before the beginning", example, -1, api.ErrRange}, {"behind the end", example, 7, api.ErrRange}, {"behind the end of nothing", "", 1, api.ErrRange}, {"far behind", example, math.MaxInt, api.ErrRange}, {"far before", example, math.MinInt, api.ErrRange}, {"2^32 behind", example, 1 << 32, api.ErrRange},

		{"nothing", "", 0, api.ErrTorn}, {"at the end", example, 6, api.ErrTorn}, {"a kind", "\x01", 0, api.ErrTorn}, {"half of the length", "\x01\x00", 0, api.ErrTorn}, {"no data", "\x01\x00\x01", 0, api.ErrTorn}, {"no sum", example[:4], 0, api.ErrTorn}, {"half of the sum", example[:5], 0, api.ErrTorn},
		{"no sum of an empty record", empty[:3], 0, api.ErrTorn}, {"half of the sum of an empty record", empty[:4], 0, api.ErrTorn}, {"the end of a record", example, 5, api.ErrTorn}, {"the most bytes, all but one", large[:len(large)-1], 0, api.ErrTorn}, {"the most bytes", "\x00\xff\xff", 0, api.ErrTorn},
		{"torn before the sum is seen", "\x01\x00\x02A\x47\x43", 0, api.ErrTorn},

		{"another kind", "\x02" + example[1:], 0, api.ErrSum}, {"another byte of the data", "\x01\x00\x01B\x47\x43", 0, api.ErrSum}, {"another upper byte of the sum", "\x01\x00\x01A\x48\x43", 0, api.ErrSum}, {"another lower byte of the sum", "\x01\x00\x01A\x47\x42", 0, api.ErrSum},
		{"the bytes of the sum exchanged", "\x01\x00\x01A\x43\x47", 0, api.ErrSum}, {"a lesser length", "\x01\x00\x00A\x47\x43", 0, api.ErrSum}, {"the bytes of the length exchanged", "\x00\x01\x00" + strings.Repeat("\x00", 256) + "\x00\x00", 0, api.ErrSum},
		{"255 instead of 0 in the upper byte of the sum", "\x00\x00\x00\xff\x00", 0, api.ErrSum}, {"255 instead of 0 in the lower byte of the sum", "\x00\x00\x00\x00\xff", 0, api.ErrSum}, {"a wrong sum before other records", "\x01\x00\x00\x03\x02" + example, 0, api.ErrSum}, {"a wrong sum behind a record", example + "\x02\x00\x00\x03\x01", 6, api.ErrSum},
	} {
		if got, behind, e := record.Next(test.s, test.at); got != (record.Entry{}) || behind != 0 || e != test.want {
			t.Errorf("Next, %s: got %v, %d, %d, want %d", test.name, short(got), behind, e, test.want)
		}
	}
	if got, behind, e := record.Next(large, 0); len(got.Data) != most || behind != len(large) || e != api.OK {
		t.Errorf("Next of the most bytes: got %d bytes, %d, %d", len(got.Data), behind, e)
	}
}

func TestAll(t *testing.T) {
	one, none := record.Entry{Kind: 1, Data: "A"}, record.Entry{}
	wrong := "\x02" + example[1:]
	for _, test := range []struct {
		s    string
		want []record.Entry
		at   int
		e    api.Errno
	}{
		{"", nil, 0, api.OK}, {example, []record.Entry{one}, 6, api.OK}, {empty, []record.Entry{none}, 5, api.OK}, {example + example, []record.Entry{one, one}, 12, api.OK}, {example + empty + example, []record.Entry{one, none, one}, 17, api.OK},
		{example[:4], nil, 0, api.ErrTorn}, {"\x00", nil, 0, api.ErrTorn}, {example + "\x00", []record.Entry{one}, 6, api.ErrTorn}, {example + example[:5], []record.Entry{one}, 6, api.ErrTorn}, {example + empty + example[:1], []record.Entry{one, none}, 11, api.ErrTorn},
		{wrong, nil, 0, api.ErrSum}, {wrong + example, nil, 0, api.ErrSum}, {example + wrong, []record.Entry{one}, 6, api.ErrSum}, {empty + example + wrong + example, []record.Entry{none, one}, 11, api.ErrSum}, {example + wrong + "\x00", []record.Entry{one}, 6, api.ErrSum},
		{strings.Repeat(empty, 5000), slices.Repeat([]record.Entry{none}, 5000), 25000, api.OK},
	} {
		got, at, e := record.All(test.s)
		if !slices.Equal(got, test.want) || at != test.at || e != test.e {
			t.Errorf("All(%.40q): got %.5v, %d, %d, want %.5v, %d, %d", test.s, got, at, e, test.want, test.at, test.e)
		}
		before := slices.Clone(got)
		if s, f := record.Join(got); s != test.s[:at] || f != api.OK {
			t.Errorf("Join(%.5v): got %.40q, %d, want %.40q", got, s, f, test.s[:at])
		}
		if !slices.Equal(got, before) {
			t.Errorf("Join: the entries have become %.5v", got)
		}
	}
}

package record_test

import (
	"math"
	"strings"
	"testing"

	"luminaire/api"
	"luminaire/record"
)

// groups returns n bytes, each of them a group with more behind it.
func groups(n int) string { return strings.Repeat("\xff", n) }

func TestInts(t *testing.T) {
	for n, s := range map[int]string{
		0: "\x00", -1: "\x01", 1: "\x02", -2: "\x03", 2: "\x04", 62: "\x7c", -63: "\x7d", 63: "\x7e", -64: "\x7f",
		64: "\x80\x01", -65: "\x81\x01", 65: "\x82\x01", 127: "\xfe\x01", -128: "\xff\x01", 128: "\x80\x02", 255: "\xfe\x03", 256: "\x80\x04", 300: "\xd8\x04", -300: "\xd7\x04",
		8191: "\xfe\x7f", -8192: "\xff\x7f", 8192: "\x80\x80\x01", -8193: "\x81\x80\x01", 65535: "\xfe\xff\x07", 65536: "\x80\x80\x08", 1 << 20: "\x80\x80\x80\x01", 1<<20 - 1: "\xfe\xff\x7f",
		1 << 31: "\x80\x80\x80\x80\x10", -1 << 31: "\xff\xff\xff\xff\x0f", 1<<32 - 1: "\xfe\xff\xff\xff\x1f",
		1<<62 - 1: "\xfe\xff\xff\xff\xff\xff\xff\xff\x7f", -1 << 62: "\xff\xff\xff\xff\xff\xff\xff\xff\x7f", 1 << 62: "\x80\x80\x80\x80\x80\x80\x80\x80\x80\x01", -1<<62 - 1: "\x81\x80\x80\x80\x80\x80\x80\x80\x80\x01",
		math.MaxInt: "\xfe" + groups(8) + "\x01", math.MinInt: groups(9) + "\x01",
	} {
		if got := record.Int(n); got != s {
			t.Errorf("Int(%d): got %q, want %q", n, got, s)
		}
		for _, around := range [][2]string{{"", ""}, {"?", ""}, {"", "\x00"}, {"\xff\xff", "\xff"}, {s, s}} {
			text, at := around[0]+s+around[1], len(around[0])
			if got, behind, e := record.GetInt(text, at); got != n || behind != at+len(s) || e != api.OK {
				t.Errorf("GetInt(%q, %d): got %d, %d, %d, want %d", text, at, got, behind, e, n)
			}
		}
	}
}

func TestWrongInts(t *testing.T) {
	for _, test := range []struct {
		name, s string
		at      int
		want    api.Errno
	}{
		{"behind the end", "", 1, api.ErrRange}, {"before the beginning", "", -1, api.ErrRange}, {"before the beginning", "a", -1, api.ErrRange}, {"behind the end", "a", 2, api.ErrRange},
		{"far behind", "abc", math.MaxInt, api.ErrRange}, {"far before", "abc", math.MinInt, api.ErrRange}, {"2^32 behind", "abc", 1 << 32, api.ErrRange}, {"a wrong offset of a wrong int", "\x80\x00", 3, api.ErrRange},

		{"nothing", "", 0, api.ErrTorn}, {"at the end", "a", 1, api.ErrTorn}, {"at the end of an int", "\x80\x01", 2, api.ErrTorn}, {"one group", "\x80", 0, api.ErrTorn}, {"one group", "?\xff", 1, api.ErrTorn}, {"two groups", "\x80\x80", 0, api.ErrTorn},
		{"nine groups", groups(9), 0, api.ErrTorn}, {"nine groups of zeros", strings.Repeat("\x80", 9), 0, api.ErrTorn},

		{"a last group of 0", "\x80\x00", 0, api.ErrForm}, {"a last group of 0", "\xff\x00", 0, api.ErrForm}, {"a last group of 0, with more behind it", "\x80\x00\x01", 0, api.ErrForm}, {"a third group of 0", "\x80\x80\x00", 0, api.ErrForm},
		{"a ninth group of 0", groups(8) + "\x00", 0, api.ErrForm}, {"a tenth group of 0", groups(9) + "\x00", 0, api.ErrForm}, {"a tenth group of 0 behind zeros", strings.Repeat("\x80", 9) + "\x00", 0, api.ErrForm},
		{"a tenth group of 2", groups(9) + "\x02", 0, api.ErrForm}, {"a tenth group of 3", groups(9) + "\x03", 0, api.ErrForm}, {"a tenth group of 127", groups(9) + "\x7f", 0, api.ErrForm},
		{"ten groups without a last one", groups(10), 0, api.ErrForm}, {"a tenth group with more", groups(9) + "\x80", 0, api.ErrForm}, {"a tenth group of 1 with more", groups(9) + "\x81", 0, api.ErrForm},
		{"eleven groups", groups(10) + "\x01", 0, api.ErrForm}, {"eleven groups", strings.Repeat("\x80", 10) + "\x01", 0, api.ErrForm}, {"many groups", groups(100000), 0, api.ErrForm}, {"many groups", "\x00" + groups(20), 1, api.ErrForm},
	} {
		if got, behind, e := record.GetInt(test.s, test.at); got != 0 || behind != 0 || e != test.want {
			t.Errorf("GetInt, %s: got %d, %d, %d, want %d", test.name, got, behind, e, test.want)
		}
		if got, behind, e := record.GetText(test.s, test.at); got != "" || behind != 0 || e != test.want {
			t.Errorf("GetText, %s: got %q, %d, %d, want %d", test.name, got, behind, e, test.want)
		}
	}
}

func TestInnerGroupsMayBeZero(t *testing.T) {
	s := strings.Repeat("\x80", 9) + "\x01"
	if got, behind, e := record.GetInt(s, 0); got != 1<<62 || behind != 10 || e != api.OK {
		t.Errorf("GetInt(%q): got %d, %d, %d", s, got, behind, e)
	}
}

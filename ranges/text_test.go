package ranges_test

import (
	"slices"
	"strings"
	"testing"

	"luminaire/api"
	"luminaire/ranges"
)

func TestParse(t *testing.T) {
	for s, want := range map[string]set{
		"": nil, " ": nil, "     ": nil, "1": one(1), "999": one(999), " 12 ": one(12), "007": one(7), "0001": one(1),
		"1 thru 5 + 9 - 3": {{1, 2}, {4, 5}, {9, 9}}, "1 thru 5-3+9": {{1, 2}, {4, 5}, {9, 9}}, "  1  thru  5  +  9  ": {{1, 5}, {9, 9}},
		"7 thru 5": {{5, 7}}, "5 thru 7": {{5, 7}}, "5 thru 5": one(5), "1thru 5": {{1, 5}}, "999 thru 1": {{1, 999}}, "010 thru 0012": {{10, 12}},
		"1-1": nil, "1 - 1 thru 5 + 2": one(2), "1 + 1": one(1), "2 - 5": one(2), "1 thru 9 - 7 thru 3": {{1, 2}, {8, 9}},
		"3 thru 4+5": {{3, 5}}, "9+5 thru 7+1": {{1, 1}, {5, 7}, {9, 9}}, "1-1+1": one(1), "1+1-1": nil, "1 thru 999 - 2 thru 998": {{1, 1}, {999, 999}},
		"5 - 5 + 5 - 5 + 6": one(6), "1 + 2": {{1, 2}}, "1 + 3": {{1, 1}, {3, 3}},
		strings.Repeat("0", api.MaxText-1) + "8": one(8), strings.Repeat(" ", api.MaxText): nil,
		strings.Repeat(" ", api.MaxText-1) + "8": one(8), strings.Repeat("7+", api.MaxText/2-1) + "8 ": {{7, 8}},
	} {
		if got, at, e := ranges.Parse(s); !slices.Equal(got, want) || at != 0 || e != api.OK {
			t.Errorf("Parse(%.40q): got %v, %d, %d, want %v", s, got, at, e, want)
		}
	}
}

func TestParseErrors(t *testing.T) {
	long := strings.Repeat("9", api.MaxText)
	tests := []struct {
		s  string
		at int
		e  api.Errno
	}{
		// Too long.
		{long + "9", 0, api.ErrLong}, {strings.Repeat(" ", api.MaxText+1), 0, api.ErrLong}, {strings.Repeat("\x00", 3*api.MaxText), 0, api.ErrLong},
		{long, 0, api.ErrRange}, {long[:api.MaxText-1] + "x", 0, api.ErrRange}, {strings.Repeat(" ", api.MaxText-1) + "x", api.MaxText - 1, api.ErrSyntax},
		// Numbers that are no channels.
		{"0", 0, api.ErrRange}, {"000", 0, api.ErrRange}, {"1000", 0, api.ErrRange}, {"  1000 ", 2, api.ErrRange}, {"1 + 1000", 4, api.ErrRange},
		{"5 thru 0", 7, api.ErrRange}, {"0 thru 5", 0, api.ErrRange}, {"1000 thru 5", 0, api.ErrRange}, {"5 thru 1000", 7, api.ErrRange},
		{"1 - 0", 4, api.ErrRange}, {"001000", 0, api.ErrRange}, {"9999999999999999999999", 0, api.ErrRange},
		{"18446744073709551617", 0, api.ErrRange}, {"4294967297", 0, api.ErrRange}, {"1+18446744073709551621-3", 2, api.ErrRange},
		// Something is missing.
		{"1 +", 3, api.ErrSyntax}, {"1 + ", 4, api.ErrSyntax}, {"1-", 2, api.ErrSyntax}, {"1 -   ", 6, api.ErrSyntax}, {"1 thru", 6, api.ErrSyntax},
		{"1 thru  ", 8, api.ErrSyntax}, {"1 + 2 thru", 10, api.ErrSyntax},
		// Something cannot stand there.
		{"1 2", 2, api.ErrSyntax}, {"1  + + 2", 5, api.ErrSyntax}, {"1++2", 2, api.ErrSyntax}, {"1+-2", 2, api.ErrSyntax}, {"-1", 0, api.ErrSyntax},
		{"+1", 0, api.ErrSyntax}, {"  + 1", 2, api.ErrSyntax}, {"-", 0, api.ErrSyntax}, {"1 thru + 2", 7, api.ErrSyntax}, {"1 + thru 2", 4, api.ErrSyntax},
		{"thru", 0, api.ErrSyntax}, {"thru 5", 0, api.ErrSyntax}, {" thru5", 1, api.ErrSyntax}, {"1 thru thru 2", 7, api.ErrSyntax},
		{"1 thru 5 thru 7", 9, api.ErrSyntax}, {"1 thru 5 7", 9, api.ErrSyntax}, {"1 thru 2 3", 9, api.ErrSyntax},
		// Words.
		{"a", 0, api.ErrSyntax}, {"1 a", 2, api.ErrSyntax}, {"1a", 1, api.ErrSyntax}, {"1 t", 2, api.ErrSyntax}, {"1 thr", 2, api.ErrSyntax},
		{"1 thr 5", 2, api.ErrSyntax}, {"1 thru5", 2, api.ErrSyntax}, {"1 thrux", 2, api.ErrSyntax}, {"1 thruX 2", 2, api.ErrSyntax},
		{"1 thrua 2", 2, api.ErrSyntax}, {"1 thruz 2", 2, api.ErrSyntax}, {"1 thruA 2", 2, api.ErrSyntax}, {"1 thruZ 2", 2, api.ErrSyntax},
		{"1 thru0 2", 2, api.ErrSyntax}, {"1 thru9", 2, api.ErrSyntax}, {"3thru4", 1, api.ErrSyntax}, {"1 thruthru 2", 2, api.ErrSyntax},
		{"1 Thru 5", 2, api.ErrSyntax}, {"1 THRU 5", 2, api.ErrSyntax}, {"1 thrU 5", 2, api.ErrSyntax}, {"1 tthru 5", 2, api.ErrSyntax},
		{"1 t hru 5", 2, api.ErrSyntax}, {"1 to 5", 2, api.ErrSyntax}, {"1 thru x 1000", 7, api.ErrSyntax}, {"1 + x", 4, api.ErrSyntax},
		// The word thru has ended, but what follows it cannot stand there.
		{"1 thru+5", 6, api.ErrSyntax}, {"1 thru-5", 6, api.ErrSyntax}, {"1 thru_5", 6, api.ErrSyntax}, {"1 thru.", 6, api.ErrSyntax},
		{"1 thru@5", 6, api.ErrSyntax}, {"1 thru[5", 6, api.ErrSyntax}, {"1 thru`5", 6, api.ErrSyntax}, {"1 thru{5", 6, api.ErrSyntax},
		{"1 thru/5", 6, api.ErrSyntax}, {"1 thru:5", 6, api.ErrSyntax}, {"1 thru\u00e95", 6, api.ErrSyntax},
		// Other bytes.
		{"\t", 0, api.ErrSyntax}, {"1\t", 1, api.ErrSyntax}, {"1\n", 1, api.ErrSyntax}, {"1 +\t2", 3, api.ErrSyntax}, {"1\x00", 1, api.ErrSyntax},
		{"\x00", 0, api.ErrSyntax}, {"\xff", 0, api.ErrSyntax}, {"1,2", 1, api.ErrSyntax}, {"1.5", 1, api.ErrSyntax}, {"1/", 1, api.ErrSyntax},
		{"1:", 1, api.ErrSyntax}, {"\u0661", 0, api.ErrSyntax}, {"1\u00a0", 1, api.ErrSyntax}, {"1 \u2212 1", 2, api.ErrSyntax}, {"(1)", 0, api.ErrSyntax},
		// The first one from left to right.
		{"0x", 0, api.ErrRange}, {"1000 2", 0, api.ErrRange}, {"0thru5", 0, api.ErrRange}, {"x 0", 0, api.ErrSyntax}, {"1 2 + 1000", 2, api.ErrSyntax},
		{"1 + 1000 +", 4, api.ErrRange}, {"1 + 0 - 1000", 4, api.ErrRange}, {"1 thru 1000x", 7, api.ErrRange}, {"1 x +", 2, api.ErrSyntax},
	}
	for _, test := range tests {
		if got, at, e := ranges.Parse(test.s); len(got) != 0 || at != test.at || e != test.e {
			t.Errorf("Parse(%.40q): got %v, %d, %d, want %d, %d", test.s, got, at, e, test.at, test.e)
		}
	}
}

func TestFormat(t *testing.T) {
	for _, test := range []struct {
		l    set
		want string
	}{
		{nil, ""}, {set{}, ""}, {one(1), "1"}, {one(999), "999"}, {set{{1, 2}}, "1 thru 2"}, {set{{1, 999}}, "1 thru 999"},
		{set{{1, 2}, {4, 5}, {9, 9}}, "1 thru 2 + 4 thru 5 + 9"}, {set{{1, 1}, {6, 6}}, "1 + 6"}, {set{{5, 7}, {10, 20}}, "5 thru 7 + 10 thru 20"},
	} {
		if got, e := ranges.Format(test.l); got != test.want || e != api.OK {
			t.Errorf("Format(%v): got %q, %d, want %q", test.l, got, e, test.want)
		}
	}
}

// TestLongNormalText checks a set whose normal text is right, but too long to be read back.
func TestLongNormalText(t *testing.T) {
	all := everySecond()
	if text, e := ranges.Format(all); len(text) > api.MaxText || e != api.OK {
		t.Errorf("the most ranges: got %d bytes, %d", len(text), e)
	}
	var l set
	for from := 1; from < api.MaxChannel; from += 3 {
		l = append(l, ranges.Range{From: from, To: from + 1})
	}
	text, e := ranges.Format(l)
	if len(text) <= api.MaxText || e != api.OK || !strings.HasSuffix(text, " + 994 thru 995 + 997 thru 998") {
		t.Errorf("Format: got %d bytes, %d", len(text), e)
	}
	if got, at, e := ranges.Parse(text); len(got) != 0 || at != 0 || e != api.ErrLong {
		t.Errorf("Parse of a long normal text: got %v, %d, %d, want ErrLong", got, at, e)
	}
}

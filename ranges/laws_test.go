package ranges_test

import (
	"math/rand"
	"regexp"
	"slices"
	"strconv"
	"strings"
	"testing"

	"luminaire/api"
	"luminaire/ranges"
)

// sample returns some channels, in runs or alone, in any order, some of them twice.
func sample(r *rand.Rand) []int {
	var channels []int
	for range r.Intn(12) {
		from := 1 + r.Intn([]int{20, api.MaxChannel}[r.Intn(2)])
		for channel := from; channel <= min(api.MaxChannel, from+r.Intn(8)); channel++ {
			channels = append(channels, channel)
		}
	}
	r.Shuffle(len(channels), func(i, j int) { channels[i], channels[j] = channels[j], channels[i] })
	return channels
}

// must returns the set of some channels.
func must(t *testing.T, channels []int) set {
	t.Helper()
	l, e := ranges.Of(channels)
	if e != api.OK || ranges.Check(l) != api.OK {
		t.Fatalf("Of(%v): got %v, %d", channels, l, e)
	}
	return l
}

// expect compares a set with the channels for which a function is true, by all functions that show what is in it.
func expect(t *testing.T, what string, l set, holds func(channel int) bool) {
	t.Helper()
	var want []int
	for channel := -2; channel <= api.MaxChannel+2; channel++ {
		in := channel >= 1 && channel <= api.MaxChannel && holds(channel)
		if got, e := ranges.Holds(l, channel); got != in || e != api.OK {
			t.Fatalf("%s: Holds(%v, %d): got %v, %d", what, l, channel, got, e)
		}
		if in {
			want = append(want, channel)
		}
	}
	if got, e := ranges.List(l); !slices.Equal(got, want) || e != api.OK {
		t.Fatalf("%s: List(%v): got %v, %d, want %v", what, l, got, e, want)
	}
	if got, e := ranges.Count(l); got != len(want) || e != api.OK {
		t.Fatalf("%s: Count(%v): got %d, %d, want %d", what, l, got, e, len(want))
	}
	if same := must(t, want); !slices.Equal(same, l) {
		t.Fatalf("%s: %v and %v have the same channels", what, l, same)
	}
}

func TestSetsOfChannels(t *testing.T) {
	r := rand.New(rand.NewSource(1))
	for range 300 {
		x, y := sample(r), sample(r)
		a, b := must(t, x), must(t, y)
		inX := func(channel int) bool { return slices.Contains(x, channel) }
		inY := func(channel int) bool { return slices.Contains(y, channel) }
		expect(t, "Of", a, inX)
		union, _ := ranges.Union(a, b)
		expect(t, "Union", union, func(channel int) bool { return inX(channel) || inY(channel) })
		minus, _ := ranges.Minus(a, b)
		expect(t, "Minus", minus, func(channel int) bool { return inX(channel) && !inY(channel) })
		common, _ := ranges.Common(a, b)
		expect(t, "Common", common, func(channel int) bool { return inX(channel) && inY(channel) })
	}
}

func TestMakeOfAnyRanges(t *testing.T) {
	r := rand.New(rand.NewSource(2))
	for range 300 {
		l := make(set, r.Intn(9))
		for i := range l {
			from := 1 + r.Intn([]int{20, api.MaxChannel}[r.Intn(2)])
			l[i] = ranges.Range{From: from, To: min(api.MaxChannel, from+r.Intn(9))}
		}
		made, e := ranges.Make(l)
		if e != api.OK {
			t.Fatalf("Make(%v): got %d", l, e)
		}
		expect(t, "Make", made, func(channel int) bool {
			return slices.ContainsFunc(l, func(r ranges.Range) bool { return r.From <= channel && channel <= r.To })
		})
		if again, e := ranges.Make(made); !slices.Equal(again, made) || e != api.OK {
			t.Errorf("Make(%v): got %v, %d", made, again, e)
		}
	}
}

func TestNormalTextsComeBack(t *testing.T) {
	r := rand.New(rand.NewSource(3))
	sets := []set{nil, everySecond(), {{1, api.MaxChannel}}}
	for range 1000 {
		sets = append(sets, must(t, sample(r)))
	}
	for _, l := range sets {
		text, e := ranges.Format(l)
		if e != api.OK {
			t.Errorf("Format(%v): got %d", l, e)
		}
		if got, at, e := ranges.Parse(text); !slices.Equal(got, l) || at != 0 || e != api.OK {
			t.Errorf("Parse(%q): got %v, %d, %d, want %v", text, got, at, e, l)
		}
	}
}

// lexeme is a part of a text: a number, the word thru, another run of letters and digits, blanks, or a byte.
var lexeme = regexp.MustCompile(`[0-9]+|[a-zA-Z][a-zA-Z0-9]*| +|(?s:.)`)

// model reads a text by its lexemes. It is another way to read than that of the package, for texts of ASCII.
func model(s string) (channels map[int]bool, at int, e api.Errno) {
	channels = map[int]bool{}
	added, first, from, state := true, true, 0, "term"
	apply := func(a, b int) {
		for channel := min(a, b); channel <= max(a, b); channel++ {
			channels[channel] = added
		}
	}
	for _, place := range lexeme.FindAllStringIndex(s, -1) {
		text := s[place[0]:place[1]]
		n, err := strconv.Atoi(text)
		switch {
		case text[0] == ' ':
			continue
		case err == nil && (state == "term" || state == "to") && (n < 1 || n > api.MaxChannel):
			return nil, place[0], api.ErrRange
		case err == nil && state == "term":
			apply(n, n)
			from, state = n, "behind"
		case err == nil && state == "to":
			// The first channel was applied alone; so it is again, as a part of all.
			apply(from, n)
			state = "end"
		case text == "thru" && state == "behind":
			state = "to"
		case (text == "+" || text == "-") && (state == "behind" || state == "end"):
			added, state = text == "+", "term"
		default:
			return nil, place[0], api.ErrSyntax
		}
		first = false
	}
	if state == "to" || state == "term" && !first {
		return nil, len(s), api.ErrSyntax
	}
	return channels, 0, api.OK
}

// compareWithModel compares what Parse returns with what the model does.
func compareWithModel(t *testing.T, s string) {
	t.Helper()
	channels, at, e := model(s)
	got, gotAt, gotE := ranges.Parse(s)
	if gotAt != at || gotE != e {
		t.Errorf("Parse(%q): got %v, %d, %d, want %d, %d", s, got, gotAt, gotE, at, e)
		return
	}
	var in []int
	for channel, added := range channels {
		if added {
			in = append(in, channel)
		}
	}
	if want := must(t, in); !slices.Equal(got, want) {
		t.Errorf("Parse(%q): got %v, want %v", s, got, want)
	}
}

func TestParseAllShortTexts(t *testing.T) {
	parts := []string{" ", "+", "-", "thru", "thr", "T", "2", "9", "0", "_"}
	var visit func(s string, rest int)
	visit = func(s string, rest int) {
		compareWithModel(t, s)
		if rest == 0 {
			return
		}
		for _, part := range parts {
			visit(s+part, rest-1)
		}
	}
	visit("", 5)
}

func TestParseLongTexts(t *testing.T) {
	r := rand.New(rand.NewSource(4))
	for range 5000 {
		var s strings.Builder
		s.WriteString("5")
		for range r.Intn(12) {
			s.WriteString([]string{" + ", "-", " - ", "+"}[r.Intn(4)])
			s.WriteString(strconv.Itoa(1 + r.Intn(40)))
			if r.Intn(2) == 0 {
				s.WriteString(" thru " + strconv.Itoa(1+r.Intn(40)))
			}
		}
		if r.Intn(4) == 0 {
			s.WriteString([]string{" 5", " thru", "x", "+", "+0", "+1000", " thru 7 thru 8", "thru7", "-thru"}[r.Intn(9)])
		}
		compareWithModel(t, s.String())
	}
}

package lexer_test

import (
	"slices"
	"strings"
	"testing"

	"luminaire/api"
	"luminaire/lexer"
)

func word(s string, at int) api.Token   { return api.Token{Kind: api.TokenWord, Text: s, At: at} }
func number(s string, at int) api.Token { return api.Token{Kind: api.TokenNumber, Text: s, At: at} }
func sign(s string, at int) api.Token   { return api.Token{Kind: api.TokenSign, Text: s, At: at} }
func end(at int) api.Token              { return api.Token{Kind: api.TokenEnd, At: at} }

// list returns the tokens that it is given.
func list(l ...api.Token) []api.Token { return l }

// plus returns a text with n tokens before the end.
func plus(n int) string { return strings.Repeat("+", n) }

func TestScan(t *testing.T) {
	long := strings.Repeat("a", api.MaxText)
	for _, test := range []struct {
		s    string
		want []api.Token
	}{
		{"", list(end(0))}, {" ", list(end(1))}, {"     ", list(end(5))}, {strings.Repeat(" ", api.MaxText), list(end(api.MaxText))},
		{"Chan 5.1 @37.5", list(word("chan", 0), number("5.1", 5), sign("@", 9), number("37.5", 10), end(14))},
		{"  go   1  ", list(word("go", 2), number("1", 7), end(10))},
		// Words.
		{"a", list(word("a", 0), end(1))}, {"Z", list(word("z", 0), end(1))}, {"azAZ", list(word("azaz", 0), end(4))}, {"GO", list(word("go", 0), end(2))},
		{"a_", list(word("a_", 0), end(2))}, {"a0_9Z_", list(word("a0_9z_", 0), end(6))}, {"a__b", list(word("a__b", 0), end(4))},
		{"a b", list(word("a", 0), word("b", 2), end(3))}, {"a1.5", list(word("a1", 0), sign(".", 2), number("5", 3), end(4))},
		{"a-b", list(word("a", 0), sign("-", 1), word("b", 2), end(3))}, {long, list(word(long, 0), end(api.MaxText))},
		{"thru5", list(word("thru5", 0), end(5))}, {"A@Z", list(word("a", 0), sign("@", 1), word("z", 2), end(3))},
		// Words in double quotes.
		{`""`, list(word(`""`, 0), end(2))}, {`"a b"`, list(word(`"a b"`, 0), end(5))}, {`"A Bc"`, list(word(`"A Bc"`, 0), end(6))},
		{`" !#~"`, list(word(`" !#~"`, 0), end(6))}, {`"a"b`, list(word(`"a"`, 0), word("b", 3), end(4))}, {`a"b"`, list(word("a", 0), word(`"b"`, 1), end(4))},
		{`"a""B"`, list(word(`"a"`, 0), word(`"B"`, 3), end(6))}, {`""""`, list(word(`""`, 0), word(`""`, 2), end(4))}, {`"1.5"2`, list(word(`"1.5"`, 0), number("2", 5), end(6))},
		{`"  "`, list(word(`"  "`, 0), end(4))}, {`  "#"  `, list(word(`"#"`, 2), end(7))}, {`"\"`, list(word(`"\"`, 0), end(3))}, {`"'"`, list(word(`"'"`, 0), end(3))},
		// Numbers.
		{"0", list(number("0", 0), end(1))}, {"9", list(number("9", 0), end(1))}, {"007", list(number("007", 0), end(3))}, {"1.50", list(number("1.50", 0), end(4))},
		{"0.0", list(number("0.0", 0), end(3))}, {"00.00", list(number("00.00", 0), end(5))}, {"12.345", list(number("12.345", 0), end(6))},
		{"1.x", list(number("1", 0), sign(".", 1), word("x", 2), end(3))}, {"1.", list(number("1", 0), sign(".", 1), end(2))}, {".5", list(sign(".", 0), number("5", 1), end(2))},
		{"1..2", list(number("1", 0), sign(".", 1), sign(".", 2), number("2", 3), end(4))}, {"1. 5", list(number("1", 0), sign(".", 1), number("5", 3), end(4))},
		{"1 .5", list(number("1", 0), sign(".", 2), number("5", 3), end(4))}, {"1.2.3", list(number("1.2", 0), sign(".", 3), number("3", 4), end(5))},
		{"1.2.3.4", list(number("1.2", 0), sign(".", 3), number("3.4", 4), end(7))}, {"1.2.", list(number("1.2", 0), sign(".", 3), end(4))},
		{"7a", list(number("7", 0), word("a", 1), end(2))}, {"1.5a", list(number("1.5", 0), word("a", 3), end(4))}, {"1e5", list(number("1", 0), word("e5", 1), end(3))},
		{"1 2", list(number("1", 0), number("2", 2), end(3))}, {"1,5", list(number("1", 0), sign(",", 1), number("5", 2), end(3))},
		{"-1", list(sign("-", 0), number("1", 1), end(2))}, {strings.Repeat("9", 4096), list(number(strings.Repeat("9", 4096), 0), end(4096))},
		{`1."a"`, list(number("1", 0), sign(".", 1), word(`"a"`, 2), end(5))},
		// Signs.
		{"+-/.,@:=%()", list(sign("+", 0), sign("-", 1), sign("/", 2), sign(".", 3), sign(",", 4), sign("@", 5), sign(":", 6), sign("=", 7), sign("%", 8), sign("(", 9), sign(")", 10), end(11))},
		{"--", list(sign("-", 0), sign("-", 1), end(2))}, {"= =", list(sign("=", 0), sign("=", 2), end(3))}, {"-1/(2)", list(sign("-", 0), number("1", 1), sign("/", 2), sign("(", 3), number("2", 4), sign(")", 5), end(6))},
	} {
		if got, at, e := lexer.Scan(test.s); !slices.Equal(got, test.want) || at != 0 || e != api.OK {
			t.Errorf("Scan(%.40q): got %v, %d, %d, want %v", test.s, got, at, e, test.want)
		}
	}
}

func TestScanMostTokens(t *testing.T) {
	for s, most := range map[string]int{plus(api.MaxTokens - 1): api.MaxTokens - 1, plus(api.MaxTokens-1) + "  ": api.MaxTokens + 1, strings.Repeat(" 1", api.MaxTokens-1): 2 * (api.MaxTokens - 1)} {
		l, at, e := lexer.Scan(s)
		if len(l) != api.MaxTokens || at != 0 || e != api.OK || l[api.MaxTokens-1] != end(most) {
			t.Errorf("Scan(%.40q): got %d tokens, %d, %d", s, len(l), at, e)
		}
	}
}

func TestScanErrors(t *testing.T) {
	full := plus(api.MaxTokens) // there is no place for the end
	for _, test := range []struct {
		s  string
		at int
		e  api.Errno
	}{
		// Too long, whatever the bytes are.
		{strings.Repeat(" ", api.MaxText+1), 0, api.ErrLong}, {strings.Repeat("a", api.MaxText+1), 0, api.ErrLong}, {"#" + strings.Repeat(" ", api.MaxText), 0, api.ErrLong},
		{plus(api.MaxText + 1), 0, api.ErrLong}, {"a #" + strings.Repeat("a", 100000), 0, api.ErrLong},
		{strings.Repeat(" ", api.MaxText-1) + "#", api.MaxText - 1, api.ErrSyntax}, {plus(api.MaxText), api.MaxTokens, api.ErrMany},
		// Bytes that begin no token.
		{"3 # 4", 2, api.ErrSyntax}, {"#", 0, api.ErrSyntax}, {"_", 0, api.ErrSyntax}, {"_a", 0, api.ErrSyntax}, {"a _b", 2, api.ErrSyntax}, {"1_000", 1, api.ErrSyntax}, {"1._", 2, api.ErrSyntax},
		{"a\tb", 1, api.ErrSyntax}, {"\n", 0, api.ErrSyntax}, {"a\r\n", 1, api.ErrSyntax}, {"\x00", 0, api.ErrSyntax}, {"go 1\x00", 4, api.ErrSyntax}, {"\x7f", 0, api.ErrSyntax}, {"\xff", 0, api.ErrSyntax},
		{"\u00e9", 0, api.ErrSyntax}, {"caf\u00e9", 3, api.ErrSyntax}, {"1\u00a0", 1, api.ErrSyntax}, {"\u0661", 0, api.ErrSyntax}, {"\u212a", 0, api.ErrSyntax}, {"\u0130", 0, api.ErrSyntax}, {"a'b'", 1, api.ErrSyntax},
		{"1 < 2", 2, api.ErrSyntax}, {"a;b", 1, api.ErrSyntax}, {"a & b", 2, api.ErrSyntax}, {"[1]", 0, api.ErrSyntax}, {"5.*", 2, api.ErrSyntax}, {"   $", 3, api.ErrSyntax}, {"# \"", 0, api.ErrSyntax},
		// Double quotes without an end.
		{`"`, 0, api.ErrSyntax}, {`a "b`, 2, api.ErrSyntax}, {`"a" "`, 4, api.ErrSyntax}, {`"""`, 2, api.ErrSyntax}, {`"a""b`, 3, api.ErrSyntax}, {`  "  `, 2, api.ErrSyntax}, {`a"`, 1, api.ErrSyntax},
		{"\"a\tb\"", 0, api.ErrSyntax}, {"x \"\n\"", 2, api.ErrSyntax}, {"\"\x7f\"", 0, api.ErrSyntax}, {"\"\x1f\"", 0, api.ErrSyntax}, {"\"\x80\"", 0, api.ErrSyntax}, {"\"\u00e9\"", 0, api.ErrSyntax}, {"\"\x00\"", 0, api.ErrSyntax},
		{`"` + strings.Repeat("a", api.MaxText-1), 0, api.ErrSyntax},
		// Too many tokens.
		{full, api.MaxTokens, api.ErrMany}, {full + "   ", api.MaxTokens + 3, api.ErrMany}, {full + "+", api.MaxTokens, api.ErrMany}, {full + "  word", api.MaxTokens + 2, api.ErrMany},
		{full + ` "a"`, api.MaxTokens + 1, api.ErrMany}, {strings.Repeat("ab ", api.MaxTokens), 3 * api.MaxTokens, api.ErrMany}, {strings.Repeat("1 ", api.MaxTokens) + "2.5", 2 * api.MaxTokens, api.ErrMany},
		// The first one from left to right; a byte that begins no token is none too many.
		{full + "+#", api.MaxTokens, api.ErrMany}, {full + ` x "a`, api.MaxTokens + 1, api.ErrMany}, {full + "#", api.MaxTokens, api.ErrSyntax}, {full + `  "a`, api.MaxTokens + 2, api.ErrSyntax},
		{"#" + full + "+", 0, api.ErrSyntax}, {plus(api.MaxTokens-1) + "#+", api.MaxTokens - 1, api.ErrSyntax}, {"a # \"b", 2, api.ErrSyntax}, {`"a # b`, 0, api.ErrSyntax},
	} {
		if got, at, e := lexer.Scan(test.s); len(got) != 0 || at != test.at || e != test.e {
			t.Errorf("Scan(%.40q): got %v, %d, %d, want %d, %d", test.s, got, at, e, test.at, test.e)
		}
	}
}

// TestBytes checks what each byte is at the beginning of a token, within words and within double quotes.
func TestBytes(t *testing.T) {
	const (
		letters = "abcdefghijklmnopqrstuvwxyzABCDEFGHIJKLMNOPQRSTUVWXYZ"
		digits  = "0123456789"
		signs   = "+-/.,@:=%()"
	)
	for i := range 256 {
		b := string([]byte{byte(i)})
		isLetter, isDigit, isSign := strings.Contains(letters, b), strings.Contains(digits, b), strings.Contains(signs, b)
		var want []api.Token
		switch {
		case isLetter:
			want = list(word(strings.ToLower(b), 0), end(1))
		case isDigit:
			want = list(number(b, 0), end(1))
		case isSign:
			want = list(sign(b, 0), end(1))
		case b == " ":
			want = list(end(1))
		}
		if got, at, e := lexer.Scan(b); !slices.Equal(got, want) || at != 0 || (e != api.OK) != (want == nil) {
			t.Errorf("Scan(%q): got %v, %d, %d, want %v", b, got, at, e, want)
		}
		got, _, _ := lexer.Scan("x" + b + "y")
		if whole := len(got) == 2; whole != (isLetter || isDigit || b == "_") {
			t.Errorf("Scan(%q): got %v", "x"+b+"y", got)
		}
		got, _, _ = lexer.Scan(`"` + b + `"`)
		if whole := len(got) == 2 && got[0] == word(`"`+b+`"`, 0); whole != (i >= 32 && i <= 126 && b != `"`) {
			t.Errorf("Scan of %q in double quotes: got %v", b, got)
		}
	}
}

func TestWordAndNumber(t *testing.T) {
	name := strings.Repeat("a", api.MaxName)
	for _, test := range []struct {
		s                string
		isWord, isNumber api.Errno
	}{
		{"a", api.OK, api.ErrForm}, {"z", api.OK, api.ErrForm}, {"x_1", api.OK, api.ErrForm}, {"a__", api.OK, api.ErrForm}, {"a0123456789", api.OK, api.ErrForm},
		{name, api.OK, api.ErrForm}, {"w" + name[:api.MaxName-2] + "_", api.OK, api.ErrForm}, {name + "a", api.ErrLong, api.ErrForm}, {strings.Repeat("b", 2*api.MaxText), api.ErrLong, api.ErrForm},
		{"", api.ErrName, api.ErrForm}, {"A", api.ErrName, api.ErrForm}, {"Z", api.ErrName, api.ErrForm}, {"aB", api.ErrName, api.ErrForm}, {"_", api.ErrName, api.ErrForm}, {"_a", api.ErrName, api.ErrForm}, {"1a", api.ErrName, api.ErrForm},
		{" ", api.ErrName, api.ErrForm}, {" a", api.ErrName, api.ErrForm}, {"a ", api.ErrName, api.ErrForm}, {"a b", api.ErrName, api.ErrForm}, {"a-b", api.ErrName, api.ErrForm}, {"a.", api.ErrName, api.ErrForm}, {"+", api.ErrName, api.ErrForm},
		{`"a"`, api.ErrName, api.ErrForm}, {`""`, api.ErrName, api.ErrForm}, {`"a`, api.ErrName, api.ErrForm}, {`a"`, api.ErrName, api.ErrForm}, {`a"b"`, api.ErrName, api.ErrForm}, {`"`, api.ErrName, api.ErrForm},
		{"\u00e9", api.ErrName, api.ErrForm}, {"a\u00e9", api.ErrName, api.ErrForm}, {"a\x00", api.ErrName, api.ErrForm}, {"a\n", api.ErrName, api.ErrForm}, {"\xff", api.ErrName, api.ErrForm},
		// The form comes before the length.
		{name + "A", api.ErrName, api.ErrForm}, {name + " ", api.ErrName, api.ErrForm}, {`"` + name + `"`, api.ErrName, api.ErrForm}, {"1" + name, api.ErrName, api.ErrForm},

		{"0", api.ErrName, api.OK}, {"9", api.ErrName, api.OK}, {"1", api.ErrName, api.OK}, {"007", api.ErrName, api.OK}, {"1.50", api.ErrName, api.OK}, {"0.0", api.ErrName, api.OK}, {"00.00", api.ErrName, api.OK}, {"123.456", api.ErrName, api.OK},
		{strings.Repeat("9", 2*api.MaxText), api.ErrName, api.OK}, {"0." + strings.Repeat("0", 2*api.MaxText), api.ErrName, api.OK},
		{"1.", api.ErrName, api.ErrForm}, {".5", api.ErrName, api.ErrForm}, {".", api.ErrName, api.ErrForm}, {"1..5", api.ErrName, api.ErrForm}, {"1.2.3", api.ErrName, api.ErrForm}, {"1.2.", api.ErrName, api.ErrForm},
		{"-1", api.ErrName, api.ErrForm}, {"+1", api.ErrName, api.ErrForm}, {" 1", api.ErrName, api.ErrForm}, {"1 ", api.ErrName, api.ErrForm}, {"1 2", api.ErrName, api.ErrForm}, {"1,5", api.ErrName, api.ErrForm}, {"1/2", api.ErrName, api.ErrForm},
		{"1_0", api.ErrName, api.ErrForm}, {"0x1", api.ErrName, api.ErrForm}, {"1.5x", api.ErrName, api.ErrForm}, {"1.x", api.ErrName, api.ErrForm}, {"1#", api.ErrName, api.ErrForm}, {"\u0661", api.ErrName, api.ErrForm}, {"1\x00", api.ErrName, api.ErrForm},
	} {
		if e := lexer.Word(test.s); e != test.isWord {
			t.Errorf("Word(%.40q): got %d, want %d", test.s, e, test.isWord)
		}
		if e := lexer.Number(test.s); e != test.isNumber {
			t.Errorf("Number(%.40q): got %d, want %d", test.s, e, test.isNumber)
		}
	}
}

func TestQuotes(t *testing.T) {
	for _, s := range []string{"", "a", "a b", "A B", " ", "~", "!", "#", `\`, "'", "1.5", "# nothing _", strings.Repeat("x", 3*api.MaxText)} {
		want := `"` + s + `"`
		if got, e := lexer.Quote(s); got != want || e != api.OK {
			t.Errorf("Quote(%.40q): got %.40q, %d", s, got, e)
		}
		if got, e := lexer.Unquote(want); got != s || e != api.OK {
			t.Errorf("Unquote(%.40q): got %.40q, %d", want, got, e)
		}
	}
	for _, s := range []string{`"`, `a"`, `"a`, `a"b`, `" "`, `""`, "a\n", "\t", "\x00", "\x1f", "\x7f", "\x80", "\xff", "\u00e9", "a b\x00", strings.Repeat("x", 3*api.MaxText) + `"`} {
		if got, e := lexer.Quote(s); got != "" || e != api.ErrForm {
			t.Errorf("Quote(%.40q): got %.40q, %d, want ErrForm", s, got, e)
		}
	}
	for _, s := range []string{"", "a", `"`, `"a`, `a"`, `"""`, `""""`, `"a" `, ` "a"`, `"a"b`, `"a"b"`, `"a""b"`, `a"b"`, `'a'`, "1", "+", "\"\n\"", "\"\x00\"", "\"\x1f\"", "\"\x7f\"", "\"\x80\"", "\"\u00e9\"", "\"a", "aba"} {
		if got, e := lexer.Unquote(s); got != "" || e != api.ErrForm {
			t.Errorf("Unquote(%q): got %q, %d, want ErrForm", s, got, e)
		}
	}
}

func TestJoin(t *testing.T) {
	half := strings.Repeat("a", api.MaxText/2)
	for _, test := range []struct {
		l    []api.Token
		want string
	}{
		{list(end(0)), ""}, {list(end(-9)), ""}, {list(word("a", 0), end(0)), "a"}, {list(word("cue", 5), number("2.5", 0), sign("/", 0), end(0)), "cue 2.5 /"},
		{list(word(`"A b"`, 7), word("x_1", 7), end(7)), `"A b" x_1`}, {list(word(`""`, 0), word(`"  "`, 0), end(0)), `"" "  "`}, {list(number("007", 1<<62), number("1.50", -1<<62), end(3)), "007 1.50"},
		{list(number("1", 0), sign(".", 1), number("2", 2), end(3)), "1 . 2"}, {list(sign("+", 0), sign("-", 0), sign("/", 0), sign(".", 0), sign(",", 0), sign("@", 0), sign(":", 0), sign("=", 0), sign("%", 0), sign("(", 0), sign(")", 0), end(0)), "+ - / . , @ : = % ( )"},
		{list(word(half+half, 0), end(0)), half + half}, {list(word(half, 0), word(half[1:], 0), end(0)), half + " " + half[1:]},
		{list(word(`"`+half+half[2:]+`"`, 0), end(0)), `"` + half + half[2:] + `"`}, {list(number(strings.Repeat("1", api.MaxText), 0), end(0)), strings.Repeat("1", api.MaxText)},
	} {
		before := slices.Clone(test.l)
		if got, e := lexer.Join(test.l); got != test.want || e != api.OK {
			t.Errorf("Join(%.60v): got %.40q, %d, want %.40q", test.l, got, e, test.want)
		}
		if !slices.Equal(test.l, before) {
			t.Errorf("Join: the tokens have become %v", test.l)
		}
	}
}

// TestJoinManyTokens checks that Join, which has no limit for tokens, writes more of them than Scan reads.
func TestJoinManyTokens(t *testing.T) {
	l := append(slices.Repeat(list(sign("+", 0)), api.MaxTokens), end(0))
	s, e := lexer.Join(l)
	if s != strings.Repeat("+ ", api.MaxTokens-1)+"+" || e != api.OK {
		t.Errorf("Join: got %d bytes, %d", len(s), e)
	}
	if got, at, e := lexer.Scan(s); len(got) != 0 || at != len(s) || e != api.ErrMany {
		t.Errorf("Scan: got %d tokens, %d, %d, want ErrMany", len(got), at, e)
	}
}

func TestJoinErrors(t *testing.T) {
	long := strings.Repeat("a", api.MaxText)
	kind := func(n int, s string) api.Token { return api.Token{Kind: n, Text: s} }
	for _, test := range []struct {
		name string
		l    []api.Token
		want api.Errno
	}{
		{"nothing", nil, api.ErrEmpty}, {"nothing", list(), api.ErrEmpty}, {"no end", list(word("a", 0)), api.ErrEmpty}, {"no end", list(word("a", 0), number("1", 0)), api.ErrEmpty},
		{"two ends", list(end(0), end(0)), api.ErrEmpty}, {"an end before", list(end(0), word("a", 0)), api.ErrEmpty}, {"an end between", list(word("a", 0), end(0), word("b", 0), end(0)), api.ErrEmpty},
		{"no end before a kind", list(kind(7, "a")), api.ErrEmpty}, {"two ends before a kind", list(kind(7, "a"), end(0), end(0)), api.ErrEmpty}, {"no end before a text", list(word("A", 0)), api.ErrEmpty}, {"no end before the length", list(word(long, 0), word("a", 0)), api.ErrEmpty},
		{"an end with a text, and another one", list(kind(api.TokenEnd, "x"), end(0)), api.ErrEmpty},

		{"a kind above", list(kind(4, "a"), end(0)), api.ErrArg}, {"a kind below", list(kind(-1, "a"), end(0)), api.ErrArg}, {"a great kind", list(kind(1<<62, ""), end(0)), api.ErrArg}, {"a kind of 256 more", list(kind(256, "a"), end(0)), api.ErrArg},
		{"the kind before its text", list(kind(9, "\x00"), end(0)), api.ErrArg}, {"a kind before a later text", list(kind(9, "a"), word("A", 0), end(0)), api.ErrArg}, {"a kind before the length", list(word(long, 0), kind(9, "a"), end(0)), api.ErrArg},
		{"a kind before the text of the end", list(kind(9, "a"), kind(api.TokenEnd, "x")), api.ErrArg},

		{"a capital letter", list(word("A", 0), end(0)), api.ErrForm}, {"a capital letter within", list(word("aBc", 0), end(0)), api.ErrForm}, {"no word", list(word("", 0), end(0)), api.ErrForm}, {"a number as a word", list(word("1", 0), end(0)), api.ErrForm}, {"a sign as a word", list(word("+", 0), end(0)), api.ErrForm},
		{"two words", list(word("a b", 0), end(0)), api.ErrForm}, {"a blank before", list(word(" a", 0), end(0)), api.ErrForm}, {"a blank behind", list(word("a ", 0), end(0)), api.ErrForm}, {"an underscore before", list(word("_a", 0), end(0)), api.ErrForm}, {"half of the quotes", list(word(`"a`, 0), end(0)), api.ErrForm},
		{"two quoted words", list(word(`"a""b"`, 0), end(0)), api.ErrForm}, {"a quote behind", list(word(`a"`, 0), end(0)), api.ErrForm}, {"a byte in quotes", list(word("\"\n\"", 0), end(0)), api.ErrForm}, {"a word of other letters", list(word("\u00e9", 0), end(0)), api.ErrForm},
		{"a point behind", list(number("1.", 0), end(0)), api.ErrForm}, {"a point before", list(number(".5", 0), end(0)), api.ErrForm}, {"no number", list(number("", 0), end(0)), api.ErrForm}, {"a word as a number", list(number("a", 0), end(0)), api.ErrForm}, {"a blank in a number", list(number("1 ", 0), end(0)), api.ErrForm}, {"two points", list(number("1.2.3", 0), end(0)), api.ErrForm},
		{"two signs", list(sign("+-", 0), end(0)), api.ErrForm}, {"no sign", list(sign("", 0), end(0)), api.ErrForm}, {"a blank as a sign", list(sign(" ", 0), end(0)), api.ErrForm}, {"another sign", list(sign("#", 0), end(0)), api.ErrForm}, {"a sign and a blank", list(sign("+ ", 0), end(0)), api.ErrForm}, {"a digit as a sign", list(sign("1", 0), end(0)), api.ErrForm},
		{"an end with a text", list(word("a", 0), kind(api.TokenEnd, "x")), api.ErrForm}, {"an end with a blank", list(kind(api.TokenEnd, " ")), api.ErrForm},
		{"a text before a later kind", list(word("A", 0), kind(9, "a"), end(0)), api.ErrForm}, {"a text behind right ones", list(word("a", 0), number("1", 0), sign("*", 0), end(0)), api.ErrForm}, {"a text before the length", list(word(long, 0), word("a", 0), word("A", 0), end(0)), api.ErrForm},
		{"the text of the end before the length", list(word(long, 0), word("a", 0), kind(api.TokenEnd, "x")), api.ErrForm},

		{"a long word", list(word(long+"a", 0), end(0)), api.ErrLong}, {"a blank too many", list(word(long[1:], 0), word("a", 0), end(0)), api.ErrLong}, {"a sign too many", list(word(long, 0), sign("+", 0), end(0)), api.ErrLong},
		{"a long text in quotes", list(word(`"`+long+`"`, 0), end(0)), api.ErrLong}, {"many signs", append(slices.Repeat(list(sign("+", 0)), api.MaxText/2+1), end(0)), api.ErrLong},
	} {
		if got, e := lexer.Join(test.l); got != "" || e != test.want {
			t.Errorf("Join, %s: got %.40q, %d, want %d", test.name, got, e, test.want)
		}
	}
}

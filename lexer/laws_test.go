package lexer_test

import (
	"math/rand"
	"regexp"
	"slices"
	"strings"
	"testing"

	"luminaire/api"
	"luminaire/lexer"
)

// lexeme is a token behind blanks, where the group that is found shows its kind.
var lexeme = regexp.MustCompile(`(?s)^ *(?:([a-zA-Z][a-zA-Z0-9_]*)|("[ !#-~]*")|([0-9]+(?:\.[0-9]+)?)|([-+/.,@:=%()])|$)`)

// model reads a text by patterns. It is another way to read than that of the package.
func model(s string) ([]api.Token, int, api.Errno) {
	if len(s) > api.MaxText {
		return nil, 0, api.ErrLong
	}
	var l []api.Token
	for at := 0; ; {
		rest := s[at:]
		token := end(len(s))
		groups := lexeme.FindStringSubmatchIndex(rest)
		if groups == nil {
			return nil, len(s) - len(strings.TrimLeft(rest, " ")), api.ErrSyntax
		}
		for i, kind := range []int{api.TokenWord, api.TokenWord, api.TokenNumber, api.TokenSign} {
			from, to := groups[2+2*i], groups[3+2*i]
			if from < 0 {
				continue
			}
			token = api.Token{Kind: kind, Text: rest[from:to], At: at + from}
			if i == 0 {
				token.Text = strings.ToLower(token.Text)
			}
		}
		if len(l) == api.MaxTokens {
			return nil, token.At, api.ErrMany
		}
		l = append(l, token)
		if token.Kind == api.TokenEnd {
			return l, 0, api.OK
		}
		at += groups[1]
	}
}

// compareWithModel compares what Scan returns with what the model does, and checks what follows from it.
func compareWithModel(t *testing.T, s string) {
	t.Helper()
	l, at, e := model(s)
	got, gotAt, gotE := lexer.Scan(s)
	if !slices.Equal(got, l) || gotAt != at || gotE != e {
		t.Errorf("Scan(%q): got %v, %d, %d, want %v, %d, %d", s, got, gotAt, gotE, l, at, e)
	}
	whole := func(kind int) bool { return len(l) == 2 && l[0].Kind == kind && l[0].Text == s }
	isQuoted := strings.HasPrefix(s, `"`)
	if e := lexer.Word(s); (e == api.OK || e == api.ErrLong) != (whole(api.TokenWord) && !isQuoted) {
		t.Errorf("Word(%q): got %d", s, e)
	}
	if e := lexer.Number(s); (e == api.OK) != whole(api.TokenNumber) {
		t.Errorf("Number(%q): got %d", s, e)
	}
	if inside, e := lexer.Unquote(s); (e == api.OK) != (whole(api.TokenWord) && isQuoted) || e == api.OK && `"`+inside+`"` != s {
		t.Errorf("Unquote(%q): got %q, %d", s, inside, e)
	}
	if e == api.OK {
		checkTokens(t, s, l)
	}
}

// checkTokens checks the consequences for a text with its tokens.
func checkTokens(t *testing.T, s string, l []api.Token) {
	t.Helper()
	before := -1
	for _, x := range l {
		if x.At <= before || !strings.HasPrefix(s[x.At:], x.Text) && !strings.HasPrefix(strings.ToLower(s[x.At:]), x.Text) {
			t.Errorf("Scan(%q): %v is at a wrong place", s, x)
		}
		before = x.At
	}
	joined, e := lexer.Join(l)
	if e == api.ErrLong && len(s) > api.MaxText/2 {
		return
	}
	again, at, f := lexer.Scan(joined)
	if e != api.OK || at != 0 || f != api.OK || !sameTokens(again, l) {
		t.Errorf("Join of the tokens of %q: got %q, %d, and from it %v, %d", s, joined, e, again, f)
	}
	if once, e := lexer.Join(again); once != joined || e != api.OK {
		t.Errorf("Join of the tokens of %q: got %q, %d", joined, once, e)
	}
}

// sameTokens reports whether tokens are the same up to their offsets.
func sameTokens(a, b []api.Token) bool {
	return slices.EqualFunc(a, b, func(x, y api.Token) bool { return x.Kind == y.Kind && x.Text == y.Text })
}

func TestScanAllShortTexts(t *testing.T) {
	parts := []string{" ", "a", "B", "_", "7", "0", ".", "-", `"`, "#", "\x00"}
	var visit func(s string, rest int)
	visit = func(s string, rest int) {
		compareWithModel(t, s)
		if rest == 0 {
			return
		}
		for _, part := range parts {
			visit(s+part, rest-1)
		}
	}
	visit("", 5)
}

func TestScanLongTexts(t *testing.T) {
	r := rand.New(rand.NewSource(1))
	parts := []string{" ", "  ", "a", "Cue", "x_1", "7", "10.25", "1.", ".5", "-", "+", "(", "%", `"A b"`, `""`, "thru"}
	wrong := []string{"#", `"`, "_", "\t", "\xff", "\u00e9", "\"\n\""}
	for range 5000 {
		var s strings.Builder
		for range r.Intn([]int{8, 40, 500, 3000}[r.Intn(4)]) {
			s.WriteString(parts[r.Intn(len(parts))])
			if r.Intn(300) == 0 {
				s.WriteString(wrong[r.Intn(len(wrong))])
			}
		}
		compareWithModel(t, s.String())
	}
}

// randomTokens returns tokens of any kinds, with texts of these kinds, and an end.
func randomTokens(r *rand.Rand) []api.Token {
	texts := [][]string{{"a", "cue", "x_1", "b0", `""`, `"A # b"`, `"1"`}, {"0", "007", "1.50", "12", "3.0"}, {"+", "-", "/", ".", ",", "@", ":", "=", "%", "(", ")"}}
	var l []api.Token
	for range r.Intn(12) {
		kind := r.Intn(len(texts))
		l = append(l, api.Token{Kind: kind, Text: texts[kind][r.Intn(len(texts[kind]))], At: r.Intn(9)})
	}
	return append(l, end(r.Intn(9)))
}

func TestJoinedTokensComeBack(t *testing.T) {
	r := rand.New(rand.NewSource(2))
	for range 5000 {
		l := randomTokens(r)
		s, e := lexer.Join(l)
		got, at, f := lexer.Scan(s)
		if e != api.OK || at != 0 || f != api.OK || !sameTokens(got, l) {
			t.Errorf("Join(%v): got %q, %d, and from it %v, %d", l, s, e, got, f)
		}
		checkVariants(t, r, s, l)
	}
}

// checkVariants writes tokens with more blanks, and with capital letters in words without quotes.
func checkVariants(t *testing.T, r *rand.Rand, s string, l []api.Token) {
	t.Helper()
	var spaced strings.Builder
	for _, x := range l {
		text := x.Text
		if x.Kind == api.TokenWord && text[0] != '"' && r.Intn(2) == 0 {
			text = strings.ToUpper(text)
		}
		spaced.WriteString(strings.Repeat(" ", 1+r.Intn(4)) + text)
	}
	got, at, e := lexer.Scan(spaced.String())
	if at != 0 || e != api.OK || !sameTokens(got, l) {
		t.Errorf("Scan(%q): got %v, %d, not the tokens of %q", spaced.String(), got, e, s)
	}
}

// TestAnyTokensEnd hands tokens of any kinds and texts to Join, and compares the result with what Scan says of them.
func TestAnyTokensEnd(t *testing.T) {
	r := rand.New(rand.NewSource(3))
	texts := []string{"", " ", "a", "A", "a b", "1", "1.5", "1.", "+", "--", `"`, `""`, `"a"`, `"a`, "#", "_", "\x00", "\xff"}
	for range 50000 {
		l := make([]api.Token, r.Intn(4))
		for i := range l {
			l[i] = api.Token{Kind: r.Intn(6) - 1, Text: texts[r.Intn(len(texts))], At: r.Intn(3) - 1}
		}
		if r.Intn(3) > 0 {
			l = append(l, end(0))
		}
		if got, e := lexer.Join(l); e != joinError(l) || e != api.OK && got != "" {
			t.Errorf("Join(%v): got %q, %d, want %d", l, got, e, joinError(l))
		}
	}
}

// joinError returns the error that Join has for short tokens.
func joinError(l []api.Token) api.Errno {
	for i := range max(1, len(l)) {
		if len(l) == 0 || (l[i].Kind == api.TokenEnd) != (i == len(l)-1) {
			return api.ErrEmpty
		}
	}
	for _, x := range l {
		found, _, _ := model(x.Text)
		switch {
		case x.Kind < api.TokenWord || x.Kind > api.TokenEnd:
			return api.ErrArg
		case x.Kind == api.TokenEnd && x.Text == "":
		case len(found) != 2 || found[0].Kind != x.Kind || found[0].Text != x.Text:
			return api.ErrForm
		}
	}
	return api.OK
}

func TestAnyBytesEnd(t *testing.T) {
	r := rand.New(rand.NewSource(4))
	for range 20000 {
		s := make([]byte, r.Intn(20))
		for i := range s {
			s[i] = byte(r.Intn(256))
		}
		compareWithModel(t, string(s))
		quoted, e := lexer.Quote(string(s))
		if got, f := lexer.Unquote(quoted); e == api.OK && (got != string(s) || f != api.OK) {
			t.Errorf("Unquote(%q): got %q, %d, want %q", quoted, got, f, s)
		}
		valid := !slices.ContainsFunc(s, func(b byte) bool { return b < ' ' || b > '~' || b == '"' })
		if (e == api.OK) != valid || !valid && (quoted != "" || e != api.ErrForm) {
			t.Errorf("Quote(%q): got %q, %d", s, quoted, e)
		}
	}
}

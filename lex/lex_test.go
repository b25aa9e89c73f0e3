package lex

import (
	"reflect"
	"regexp"
	"slices"
	"strings"
	"testing"

	"undertone/api"
)

const (
	small  = "abcdefghijklmnopqrstuvwxyz"
	great  = "ABCDEFGHIJKLMNOPQRSTUVWXYZ"
	digits = "0123456789"
)

var (
	piece = regexp.MustCompile(`(?s)([A-Za-z_][A-Za-z_0-9]*)|([0-9]+)|([-(){},:;=+*<])|([ \n\t]|#[^\n]*)|(.)`)
	kinds = []int{api.TokWord, api.TokInt, api.TokSign, 0, api.TokBad}
	word  = regexp.MustCompile(`^[A-Za-z_][A-Za-z_0-9]{0,11}\z`)
	own   = regexp.MustCompile(`^(fn|chan|let|if|else|while|send|return|sends)\z`)
)

// plain has `?` for each byte that a regular expression might take together with others.
func plain(s string) string {
	out := []byte(s)
	for i, c := range out {
		if c >= 0x80 {
			out[i] = '?'
		}
	}
	return string(out)
}

// told is what Tokens must answer, found without the package's own means.
func told(s string) []api.Token {
	var out []api.Token
	for _, m := range piece.FindAllStringSubmatchIndex(plain(s), -1) {
		for i, kind := range kinds {
			if m[2*i+2] >= 0 && kind != 0 {
				out = append(out, api.Token{Kind: kind, Text: s[m[0]:m[1]], At: m[0]})
			}
		}
	}
	return out
}

// cut is what Cuts must answer: lines are asked instead of tokens, as no token and no remark goes beyond one.
func cut(s string) []int {
	l := told(s)
	if len(l) == 0 {
		return nil
	}
	out := []int{l[0].At}
	at := 0
	for _, line := range strings.SplitAfter(s, "\n") {
		first := strings.TrimLeft(line, small+great+digits+"_")
		if w := strings.TrimSuffix(line, first); at > l[0].At && (w == "fn" || w == "chan") {
			out = append(out, at)
		}
		at += len(line)
	}
	return out
}

// texts calls f with all texts of up to n of the pieces.
func texts(pieces []string, n int, f func(s string)) {
	var grow func(s string, left int)
	grow = func(s string, left int) {
		f(s)
		if left == 0 {
			return
		}
		for _, p := range pieces {
			grow(s+p, left-1)
		}
	}
	grow("", n)
}

func tokensAre(t *testing.T, s string) {
	t.Helper()
	got, want := Tokens(s), told(s)
	if len(got) != len(want) || len(got) > 0 && !reflect.DeepEqual(got, want) {
		t.Fatalf("Tokens(%q) is %v, not %v", s, got, want)
	}
}

func cutsAre(t *testing.T, s string) {
	t.Helper()
	if got, want := Cuts(s), cut(s); !slices.Equal(got, want) {
		t.Fatalf("Cuts(%q) is %v, not %v", s, got, want)
	}
}

func wordIs(t *testing.T, s string) {
	t.Helper()
	is := word.MatchString(s)
	if got := Word(s); got != is {
		t.Fatalf("Word(%q) is %v", s, got)
	}
	if got, want := Name(s), is && !own.MatchString(s); got != want {
		t.Fatalf("Name(%q) is %v", s, got)
	}
}

func TestBytes(t *testing.T) {
	for i := range 256 {
		c := byte(i)
		in := func(set string) bool { return strings.IndexByte(set, c) >= 0 }
		if got := Letter(c); got != in(small+great+"_") {
			t.Errorf("Letter(%q) is %v", c, got)
		}
		if got := Digit(c); got != in(digits) {
			t.Errorf("Digit(%q) is %v", c, got)
		}
		if got := Blank(c); got != in(" \n\t") {
			t.Errorf("Blank(%q) is %v", c, got)
		}
	}
}

func TestTokens(t *testing.T) {
	tok := func(kind int, text string, at int) api.Token { return api.Token{Kind: kind, Text: text, At: at} }
	const w, n, g, b = api.TokWord, api.TokInt, api.TokSign, api.TokBad
	for _, c := range []struct {
		s    string
		want []api.Token
	}{
		{"", nil},
		{" \t\n ", nil},
		{"#", nil},
		{"# a b\n", nil},
		{"ab1 12+?", []api.Token{tok(w, "ab1", 0), tok(n, "12", 4), tok(g, "+", 6), tok(b, "?", 7)}},
		{"12ab", []api.Token{tok(n, "12", 0), tok(w, "ab", 2)}},
		{"007_7", []api.Token{tok(n, "007", 0), tok(w, "_7", 3)}},
		{"a#b\nc", []api.Token{tok(w, "a", 0), tok(w, "c", 4)}},
		{"#a\n#b\n1", []api.Token{tok(n, "1", 6)}},
		{"==<", []api.Token{tok(g, "=", 0), tok(g, "=", 1), tok(g, "<", 2)}},
		{"a\r\n", []api.Token{tok(w, "a", 0), tok(b, "\r", 1)}},
		{"??", []api.Token{tok(b, "?", 0), tok(b, "?", 1)}},
		{"é", []api.Token{tok(b, "\xc3", 0), tok(b, "\xa9", 1)}},
		{"\x00a\x00", []api.Token{tok(b, "\x00", 0), tok(w, "a", 1), tok(b, "\x00", 2)}},
		{"fn>", []api.Token{tok(w, "fn", 0), tok(b, ">", 2)}},
		{"a thirteenlong", []api.Token{tok(w, "a", 0), tok(w, "thirteenlong", 2)}},
	} {
		got := Tokens(c.s)
		if len(got) != len(c.want) || len(got) > 0 && !reflect.DeepEqual(got, c.want) {
			t.Errorf("Tokens(%q) is %v, not %v", c.s, got, c.want)
		}
	}
}

func TestTokensOfAllPairs(t *testing.T) {
	for i := range 256 {
		tokensAre(t, string([]byte{byte(i)}))
		for j := range 256 {
			tokensAre(t, string([]byte{byte(i), byte(j)}))
			tokensAre(t, string([]byte{'a', byte(i), byte(j), '1'}))
		}
	}
}

func TestTokensOfSmallTexts(t *testing.T) {
	texts(strings.Split("a1 \n#+?", ""), 5, func(s string) { tokensAre(t, s) })
	texts([]string{"_Z", "90", "\t", "\n", "#", "{", "\xff"}, 5, func(s string) { tokensAre(t, s) })
}

func TestTokensOfGreatTexts(t *testing.T) {
	for _, p := range []string{"a", "1", " ", "#", "\n", "?", "fn x\n", "# x\n"} {
		s := strings.Repeat(p, 20000)
		tokensAre(t, s)
		cutsAre(t, s)
	}
}

func TestWords(t *testing.T) {
	texts(strings.Split("aZ_09 \n-\xe1", ""), 4, func(s string) { wordIs(t, s) })
	for i := range 256 {
		c := string([]byte{byte(i)})
		wordIs(t, c)
		wordIs(t, c+"a")
		wordIs(t, "a"+c)
		wordIs(t, "a"+c+"1")
	}
	for n := range 30 {
		wordIs(t, strings.Repeat("x", n))
		wordIs(t, "x"+strings.Repeat("1", n))
		wordIs(t, strings.Repeat("1", n))
	}
	if !Word(strings.Repeat("x", api.MaxName)) || Word(strings.Repeat("x", api.MaxName+1)) {
		t.Errorf("the greatest length of a name is not kept")
	}
}

func TestOwn(t *testing.T) {
	want := "fn chan let if else while send return sends"
	l := Own()
	if got := strings.Join(l, " "); got != want {
		t.Errorf("Own is %s, not %s", got, want)
	}
	for _, s := range l {
		wordIs(t, s)
		if !Word(s) || Name(s) {
			t.Errorf("%s must be a word, and no name", s)
		}
		for _, near := range []string{s + "s", s + "1", "_" + s, s[:len(s)-1], s[1:], strings.ToUpper(s), s + " "} {
			wordIs(t, near)
		}
	}
}

func TestOwnIsNew(t *testing.T) {
	l := Own()
	l = l[:cap(l)]
	for i := range l {
		l[i] = "other"
	}
	if Own()[0] != "fn" || Name("fn") || !Name("other") {
		t.Errorf("who changes what Own answered changes what the package answers")
	}
}

func TestCuts(t *testing.T) {
	for _, c := range []struct {
		s    string
		want []int
	}{
		{"", nil},
		{" \n\t# fn\n", nil},
		{"x", []int{0}},
		{"fn", []int{0}},
		{"\nfn", []int{1}},
		{"  ?", []int{2}},
		{"\nfn\nchan", []int{1, 4}},
		{"fn a\nfn b\n chan c\nchan d", []int{0, 5, 18}},
		{"1\nfn1\nfn_\nchans\nfn(", []int{0, 16}},
		{"x\n\nfn", []int{0, 3}},
		{"x\r\nfn\rfn", []int{0, 3}},
		{"x\n#\nfn", []int{0, 4}},
		{"x\n#fn\n#\nfn", []int{0, 8}},
		{"x #\nchan", []int{0, 4}},
		{"x\n\tfn\nlet\nsend\nFn", []int{0}},
		{"# x\n y\nchan", []int{5, 7}},
	} {
		if got := Cuts(c.s); !slices.Equal(got, c.want) {
			t.Errorf("Cuts(%q) is %v, not %v", c.s, got, c.want)
		}
	}
}

func TestCutsOfSmallTexts(t *testing.T) {
	texts([]string{"fn", "chan", " ", "\n", "#", "1", "?"}, 6, func(s string) { cutsAre(t, s) })
}

func TestAnswersAreNew(t *testing.T) {
	s := "fn a\nfn ?"
	for range 2 {
		l, c := Tokens(s), Cuts(s)
		tokensAre(t, s)
		cutsAre(t, s)
		l = l[:cap(l)]
		for i := range l {
			l[i] = api.Token{Kind: 9, Text: "other", At: -1}
		}
		c = c[:cap(c)]
		for i := range c {
			c[i] = -1
		}
		tokensAre(t, s)
		cutsAre(t, s)
	}
}

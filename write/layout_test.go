package write

import (
	"slices"
	"strings"
	"testing"

	"undertone/api"
	"undertone/label"
	"undertone/lex"
	"undertone/parse"
)

// laid has what must be written of a right text, of its tokens alone: what nothing needs is left out, and the rest laid out.
func laid(t *testing.T, s string) string {
	t.Helper()
	var l []string
	for _, tok := range lex.Tokens(s) {
		l = append(l, tok.Text)
	}
	return lay(needed(t, shorter(l)))
}

func isName(s string) bool { return lex.Name(s) }

// at has a token, or none.
func at(l []string, i int) string {
	if i < 0 || i >= len(l) {
		return ""
	}
	return l[i]
}

// shorter leaves out what nothing asks for, but parentheses: commas behind the last part, noughts ahead, empty blocks behind else; of a label it makes one token.
func shorter(l []string) []string {
	var out []string
	for i := 0; i < len(l); i++ {
		switch {
		case l[i] == "," && (at(l, i+1) == ")" || at(l, i+1) == "}"):
		case l[i] == "else" && at(l, i+2) == "}":
			i += 2
		case l[i] == "{" && at(l, i-1) == ":":
			n := 0
			for ; l[i] != "}"; i++ {
				if l[i] != "{" && l[i] != "," {
					n |= 1 << (l[i][0] - 'a')
				}
			}
			out = append(out, label.Print(n))
		case lex.Digit(l[i][0]):
			number := strings.TrimLeft(l[i], "0")
			if number == "" {
				number = "0"
			}
			out = append(out, number)
		default:
			out = append(out, l[i])
		}
	}
	return out
}

// opensList tells whether token i opens a list of parameters or arguments.
func opensList(l []string, i int) bool {
	return l[i] == "(" && isName(at(l, i-1)) && at(l, i-2) != "send"
}

// closes has where what is opened at i is closed.
func closes(l []string, i int) int {
	for open := 0; ; i++ {
		open += strings.Count(l[i], "(") - strings.Count(l[i], ")")
		if open == 0 {
			return i
		}
	}
}

// meant has what the tokens are read as, without where it stands.
func meant(l []string) (api.File, bool) {
	s := ""
	for i, text := range l {
		if i > 0 && (text == "fn" || text == "chan") {
			s += "\n"
		}
		s += text + " "
	}
	f, err := parse.File(s)
	return noPlaces(f), err == api.OK && goodFile(f)
}

// needed leaves out all parentheses without which the text is read as the same.
func needed(t *testing.T, l []string) []string {
	t.Helper()
	want, ok := meant(l)
	if !ok {
		t.Fatalf("of %q something is wrong", l)
	}
	for i := 0; i < len(l); {
		if l[i] != "(" || opensList(l, i) {
			i++
			continue
		}
		end := closes(l, i)
		less := slices.Concat(l[:i], l[i+1:end], l[end+1:])
		if got, ok := meant(less); ok && same(got, want) {
			l = less
		} else {
			i++
		}
	}
	return l
}

// lay has the tokens stand as chapter 9 has them.
func lay(l []string) string {
	out, deep := "", 0
	for i, text := range l {
		if text == "}" {
			deep--
		}
		out += gapAhead(l, i, out, deep) + text
		if text == "{" {
			deep++
		}
		if text == "{" || text == ";" || text == "}" && at(l, i+1) != "else" {
			out += "\n"
		}
	}
	return out
}

func gapAhead(l []string, i int, out string, deep int) string {
	switch {
	case out == "":
		return ""
	case strings.HasSuffix(out, "\n"):
		return strings.Repeat("  ", deep)
	case slices.Contains([]string{")", ",", ";", ":"}, l[i]), l[i-1] == "(", opensList(l, i):
		return ""
	}
	return " "
}

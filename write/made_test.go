package write

import (
	"math/rand"
	"reflect"
	"strings"
	"testing"

	"undertone/api"
	"undertone/infer"
	"undertone/label"
	"undertone/lex"
	"undertone/parse"
)

// maker makes texts token by token, with parentheses, commas and noughts that nothing needs.
type maker struct {
	*rand.Rand
	l    []string
	deep int
}

func (m *maker) put(l ...string) { m.l = append(m.l, l...) }

func (m *maker) pick(l ...string) string { return l[m.Intn(len(l))] }

// goes tells, once in n times, whether there is more; of a long text no more, so that there is an end.
func (m *maker) goes(n int) bool { return len(m.l) < 400 && m.Intn(n) == 0 }

func (m *maker) name() string { return m.pick("x", "y", "_", "F9", "abcdefghijkl", "lets", "a", "h") }

// list has up to n parts, with `,` between, and perhaps behind the last one.
func (m *maker) list(n int, part func()) {
	for i := range n {
		part()
		if i < n-1 || m.Intn(3) == 0 {
			m.put(",")
		}
	}
}

func (m *maker) label() {
	tags := m.Perm(api.Tags)[:m.Intn(4)]
	m.put("{")
	k := 0
	m.list(len(tags), func() {
		m.put("abcdefgh"[tags[k] : tags[k]+1])
		k++
	})
	m.put("}")
}

func (m *maker) expr() {
	m.single()
	for m.goes(3) {
		m.put(m.pick("=", "<", "+", "-", "*"))
		m.single()
	}
}

func (m *maker) single() {
	m.deep++
	defer func() { m.deep-- }()
	switch k := m.Intn(6); {
	case k < 2 && m.deep < api.MaxNest-2 && len(m.l) < 400:
		m.put("(")
		m.expr()
		m.put(")")
	case k == 2 && m.deep < api.MaxNest-2:
		m.call()
	case k < 5:
		m.put(m.pick("0", "1", "42", "007", "1000000000", "000"))
	default:
		m.put(m.name())
	}
}

func (m *maker) call() {
	m.put(m.name(), "(")
	m.list(m.Intn(api.MaxParams+1), m.expr)
	m.put(")")
}

func (m *maker) block() {
	m.deep++
	defer func() { m.deep-- }()
	m.put("{")
	for m.deep < api.MaxNest-4 && !m.goes(3) && len(m.l) < 400 {
		m.stmt()
	}
	m.put("}")
}

func (m *maker) stmt() {
	switch m.Intn(9) {
	case 0:
		m.put("let", m.name(), "=")
	case 1:
		m.put("let", m.name(), ":")
		m.label()
		m.put("=")
	case 2:
		m.put(m.name(), "=")
	case 3:
		m.put("send", m.name())
	case 4:
		m.put("return")
	case 5:
		m.put("while")
		m.expr()
		m.block()
		return
	case 6, 7:
		m.branches()
		return
	default:
		m.call()
		if m.Intn(3) == 0 {
			m.put(m.pick("=", "<", "+", "-", "*"))
			m.expr()
		}
		m.put(";")
		return
	}
	m.expr()
	m.put(";")
}

func (m *maker) branches() {
	m.put("if")
	m.expr()
	m.block()
	switch m.Intn(4) {
	case 0:
		m.put("else", "{", "}")
	case 1, 2:
		m.put("else")
		m.block()
	}
}

func (m *maker) item() {
	if m.Intn(3) == 0 {
		m.put("chan", m.name(), ":")
		m.label()
		m.put(";")
		return
	}
	m.put("fn", m.name(), "(")
	m.list(m.Intn(api.MaxParams+1), func() {
		m.put(m.name(), ":")
		m.label()
	})
	m.put(")", ":")
	m.label()
	for i := range m.Intn(api.MaxParams + 1) {
		m.put([]string{"sends", ",", ",", ",", ","}[i], m.name())
	}
	m.block()
}

func (m *maker) gap() string {
	return m.pick("", "", "", " ", "  ", "\n ", "\t", " # if x { ;\n ", "#\n ")
}

// text has the tokens with gaps between, and items ahead of which a line feed stands.
func (m *maker) text() string {
	s := m.gap()
	for i, text := range m.l {
		joins := i > 0 && lex.Tokens(text)[0].Kind != api.TokSign && lex.Tokens(m.l[i-1])[0].Kind != api.TokSign
		switch {
		case i > 0 && (text == "chan" || text == "fn"):
			s += "\n"
		case joins:
			s += m.pick(" ", "\n ", "\t", " # fn\n ")
		default:
			s += m.gap()
		}
		s += text
	}
	return s + m.gap()
}

// broken has other tokens in the place of some.
func (m *maker) broken() string {
	for range 1 + m.Intn(3) {
		if len(m.l) > 0 {
			m.l[m.Intn(len(m.l))] = m.pick("(", ")", "{", "}", ";", ",", "=", "+", "x", "let", "if", "while", "else", "1", "?", "abcdefghijklm", "fn", "99999999999")
		}
	}
	return m.text()
}

// made is a text, and its file.
type made struct {
	s    string
	f    api.File
	good bool
}

func goodFile(f api.File) bool {
	for _, it := range f.Items {
		if len(it.Diags) > 0 {
			return false
		}
	}
	return true
}

func makeText(seed int, bad bool) (made, bool) {
	m := &maker{Rand: rand.New(rand.NewSource(int64(seed)))}
	for range m.Intn(5) {
		m.item()
	}
	s := m.text()
	if bad {
		s = m.broken()
	}
	f, err := parse.File(s)
	return made{s, f, goodFile(f)}, err == api.OK
}

// right hands on many texts with which nothing is wrong.
func right(t *testing.T, n int, use func(s string, f api.File)) {
	t.Helper()
	count, long := 0, 0
	for seed := range n {
		if c, ok := makeText(seed, false); ok && c.good {
			use(c.s, c.f)
			count++
			long = max(long, len(c.s))
		}
	}
	if count < n*9/10 || long < 800 {
		t.Errorf("with %d right ones, of %d bytes at most, the texts are too poor", count, long)
	}
}

// all hands on right texts and broken ones.
func all(t *testing.T, n int, use func(s string, f api.File)) {
	t.Helper()
	count := 0
	for seed := range n {
		if c, ok := makeText(seed, seed%2 == 1); ok {
			use(c.s, c.f)
			if !c.good {
				count++
			}
		}
	}
	if count < n/4 {
		t.Errorf("with %d broken ones the texts are too poor", count)
	}
}

// What is written is what comes of the text's own tokens (see layout_test.go).
func TestByTokens(t *testing.T) {
	groups := 0
	right(t, 700, func(s string, f api.File) {
		want := laid(t, s)
		if got := File(f); got != want {
			t.Fatalf("of %q is written\n%s\nnot\n%s", s, got, want)
		}
		groups += strings.Count(want, "((") + strings.Count(want, " (")
	})
	if groups < 700 {
		t.Errorf("with %d parentheses the texts are too poor", groups)
	}
}

// What is written is read, and is the same but for where it stands; and written anew it is the same text.
func TestReadAgain(t *testing.T) {
	right(t, 3000, func(s string, f api.File) {
		text := File(f)
		if len(text) > api.MaxText {
			return
		}
		g, err := parse.File(text)
		if err != api.OK || !goodFile(g) {
			t.Fatalf("of %q is written %q, of which is read %v, %d", s, text, g, err)
		}
		if !same(noPlaces(g), noPlaces(f)) {
			t.Fatalf("of %q is written\n%s\nwhich is\n%v, not\n%v", s, text, Plain(g), Plain(f))
		}
		if !same(Plain(g), Plain(f)) {
			t.Fatalf("of %q is written\n%s\nand plain is\n%v, not\n%v", s, text, Plain(g), Plain(f))
		}
		if again := File(g); again != text {
			t.Fatalf("of %q is written\n%s\nand then\n%s", s, text, again)
		}
		if plain := File(Plain(f)); plain != text {
			t.Fatalf("of %q is written\n%s\nand without places\n%s", s, text, plain)
		}
	})
}

// What has labels that nobody wrote is written with them, and is read with them.
func TestFound(t *testing.T) {
	right(t, 1000, func(s string, f api.File) {
		found := infer.Labels(f)
		text := File(found)
		if len(text) > api.MaxText {
			return
		}
		g, err := parse.File(text)
		if err != api.OK || !same(noPlaces(g), noPlaces(found)) {
			t.Fatalf("of %q is written\n%s\nwhich is\n%v, not\n%v", s, text, Plain(g), Plain(found))
		}
	})
}

// noPlaces has each field of one of these names be none, wherever it stands.
func noPlaces(f api.File) api.File {
	g := own(f)
	var walk func(v reflect.Value)
	walk = func(v reflect.Value) {
		switch v.Kind() {
		case reflect.Slice:
			for i := range v.Len() {
				walk(v.Index(i))
			}
		case reflect.Struct:
			for i := range v.NumField() {
				switch v.Type().Field(i).Name {
				case "At", "Size", "Mark", "From", "To", "Diags":
					v.Field(i).SetZero()
				default:
					walk(v.Field(i))
				}
			}
		}
	}
	walk(reflect.ValueOf(&g).Elem())
	return g
}

// own copies a file with all that it has.
func own(f api.File) api.File {
	var out api.File
	for _, it := range f.Items {
		out.Items = append(out.Items, parse.Own(it))
	}
	return out
}

func TestPlainOfAll(t *testing.T) {
	all(t, 3000, func(s string, f api.File) {
		if got, want := Plain(f), noPlaces(f); !same(got, want) {
			t.Fatalf("of %q plain is\n%v, not\n%v", s, got, want)
		}
		if got, want := Plain(Plain(f)), Plain(f); !same(got, want) {
			t.Fatalf("of %q plain of plain is\n%v, not\n%v", s, got, want)
		}
	})
}

// eachLabel hands on all labels of a file.
func eachLabel(f api.File, use func(n *int)) {
	var stmts func(l []api.Stmt)
	stmts = func(l []api.Stmt) {
		for i := range l {
			if l[i].Kind == api.StLet && !l[i].Open {
				use(&l[i].Label)
			}
			stmts(l[i].Then)
			stmts(l[i].Else)
		}
	}
	for i := range f.Items {
		it := &f.Items[i]
		use(&it.Label)
		for k := range it.Params {
			use(&it.Params[k].Label)
		}
		stmts(it.Body)
	}
}

// Of files with other labels these are written, and nothing else is.
func TestOtherLabels(t *testing.T) {
	n := 0
	next := func(l *int) {
		*l = n % (api.Top + 1)
		n += 37
	}
	right(t, 1000, func(s string, f api.File) {
		eachLabel(f, next)
		text := File(f)
		if g, err := parse.File(text); err == api.OK && !same(noPlaces(g), noPlaces(f)) {
			t.Fatalf("with other labels of %q is written\n%s\nwhich is\n%v, not\n%v", s, text, Plain(g), Plain(f))
		}
		var list []string
		eachLabel(f, func(n *int) { list = append(list, label.Print(*n)) })
		for _, l := range list {
			if !strings.Contains(text, ": "+l) {
				t.Fatalf("with other labels of %q is written\n%s\nwithout %s", s, text, l)
			}
		}
	})
}

// Of files with other sends these are written, however many there are.
func TestOtherSends(t *testing.T) {
	many := []api.Ref{{Name: "p", At: -1}, {Name: "p"}, {Name: "none"}, {Name: "q", At: 5}, {Name: "_"}, {Name: "r"}, {Name: "s"}}
	for _, l := range [][]api.Ref{nil, {}, many[:1], many[:2], many} {
		want := ""
		for i, r := range l {
			want += []string{" sends ", ", "}[min(i, 1)] + r.Name
		}
		right(t, 300, func(s string, f api.File) {
			for i := range f.Items {
				f.Items[i].Sends = nil
			}
			rows := strings.Split(File(f), "\n")
			for i := range f.Items {
				f.Items[i].Sends = l
			}
			for i, row := range strings.Split(File(f), "\n") {
				less := rows[i]
				if strings.HasPrefix(less, "fn ") {
					less = strings.TrimSuffix(less, " {") + want + " {"
				}
				if row != less {
					t.Fatalf("with sends %v of %q is written %s, not %s", l, s, row, less)
				}
			}
		})
	}
}

package flow

import (
	"math/rand"
	"slices"
	"strings"
	"testing"

	"undertone/api"
	"undertone/lex"
)

// maker writes texts, in which few names are those of many things, and few labels those of many.
type maker struct {
	*rand.Rand
	deep int
}

func (m *maker) pick(l ...string) string { return l[m.Intn(len(l))] }

func (m *maker) local() string { return m.pick("x", "y", "z", "p", "q") }

func (m *maker) fn() string { return m.pick("f", "g", "h", "k", "x") }

func (m *maker) channel() string { return m.pick("c", "d", "e", "f") }

func (m *maker) label() string {
	return m.pick("{}", "{}", "{a}", "{b}", "{a, b}", "{a, b, c}", "{a, b, c, d, e, f, g, h}")
}

// some has up to n parts, with `,` between.
func (m *maker) some(n int, part func() string) string {
	var l []string
	for range m.Intn(n + 1) {
		l = append(l, part())
	}
	return strings.Join(l, ", ")
}

func (m *maker) call() string { return m.fn() + "(" + m.some(4, m.expr) + ")" }

func (m *maker) expr() string {
	m.deep++
	defer func() { m.deep-- }()
	if m.deep > 5 {
		return m.local()
	}
	switch m.Intn(8) {
	case 0, 1:
		return m.pick("0", "1", "42")
	case 2:
		return m.call()
	case 3:
		return "(" + m.expr() + ")"
	case 4:
		return m.expr() + m.pick("=", "<", "+", " - ", "*") + m.expr()
	}
	return m.local()
}

func (m *maker) block() string {
	m.deep++
	defer func() { m.deep-- }()
	s := "{ "
	for m.deep < 5 && m.Intn(5) > 0 {
		s += m.stmt() + m.pick("", " ", "\n  ")
	}
	return s + "}"
}

func (m *maker) stmt() string {
	switch m.Intn(10) {
	case 0, 1:
		return "let " + m.local() + " = " + m.expr() + ";"
	case 2:
		return "let " + m.local() + ": " + m.label() + " = " + m.expr() + ";"
	case 3, 4:
		return m.local() + " = " + m.expr() + ";"
	case 5:
		return "send " + m.channel() + " " + m.expr() + ";"
	case 6:
		return "if " + m.expr() + " " + m.block() + m.pick("", " else "+m.block())
	case 7:
		return "while " + m.expr() + " " + m.block()
	case 8:
		return "return " + m.expr() + ";"
	}
	return m.call() + ";"
}

func (m *maker) item() string {
	if m.Intn(3) == 0 {
		return "chan " + m.channel() + ": " + m.label() + ";"
	}
	s := "fn " + m.fn() + "(" + m.some(4, func() string { return m.local() + ": " + m.label() }) + "): " + m.label()
	if m.Intn(2) == 0 {
		s += " sends " + m.channel() + strings.Repeat(", "+m.channel(), m.Intn(3))
	}
	return s + " " + m.block()
}

func (m *maker) text() string {
	s := m.pick("", "", "# x\n", " ")
	for range m.Intn(7) {
		s += m.item() + m.pick("\n", "\n\n", "\n# y\n", " \n ")
	}
	return s[:min(len(s), api.MaxText)]
}

// broken has a text with some tokens left out, and some put in.
func (m *maker) broken() string {
	s := m.text()
	for range 1 + m.Intn(4) {
		l := lex.Tokens(s)
		if len(l) == 0 {
			break
		}
		t := l[m.Intn(len(l))]
		s = s[:t.At] + m.pick("", "", "(", ")", "{", "}", ";", ",", "=", "+", " x ", " let ", " if ", " while ", " else ", " send ", "1", "?", "\nfn ", "\nchan ") + s[t.At+m.Intn(2)*len(t.Text):]
	}
	return s[:min(len(s), api.MaxText)]
}

// texts hands on many texts, of which every other one is broken.
func texts(t *testing.T, n int, use func(s string, f api.File)) {
	t.Helper()
	for seed := range n {
		m := &maker{Rand: rand.New(rand.NewSource(int64(seed)))}
		s := m.text()
		if seed%2 == 1 {
			s = m.broken()
		}
		use(s, read(t, s))
	}
}

// What is told is what other means find (see parts_test.go), of right texts and of broken ones.
func TestByParts(t *testing.T) {
	wrong, heard, sound, set := 0, 0, 0, 0
	texts(t, 1500, func(s string, f api.File) {
		n := 0
		if got, want := Floors(f), floorsByTags(f); !slices.Equal(got, want) {
			t.Fatalf("of %q floors are %v, not %v", s, got, want)
		}
		for i, it := range f.Items {
			p := apart(f, i)
			want := p.diags()
			if got := Diags(f, i); !slices.Equal(got, want) {
				t.Fatalf("of item %d of %q is wrong\n%v, not\n%v", i, s, got, want)
			}
			n += len(want)
			if got, want := Lets(f, i), p.lets(); !slices.Equal(got, want) {
				t.Fatalf("to lets of item %d of %q flows %v, not %v", i, s, got, want)
			}
			for _, secret := range p.lets() {
				set += min(secret, 1)
			}
			for at := -1; at <= it.Size; at++ {
				wantN, wantOK := p.label(at)
				if got, ok := Label(f, i, at); got != wantN || ok != wantOK {
					t.Fatalf("at byte %d of item %d of %q stands %d, %v, not %d, %v", at, i, s, got, ok, wantN, wantOK)
				}
				if wantN > 0 {
					heard++
				}
			}
		}
		if got := Sound(f); got != (n == 0) {
			t.Fatalf("with %d wrong %q is sound: %v", n, s, got)
		}
		wrong += n
		if n == 0 && len(s) > 100 {
			sound++
		}
	})
	if wrong < 4000 || heard < 40000 || sound < 200 || set < 1000 {
		t.Errorf("with %d wrong, %d heard, %d sound and %d told to lets the texts are too poor", wrong, heard, sound, set)
	}
}

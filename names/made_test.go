package names

import (
	"math/rand"
	"reflect"
	"strings"
	"testing"

	"undertone/api"
	"undertone/lex"
)

// maker writes texts, in which few names are those of many things.
type maker struct {
	*rand.Rand
	deep int
}

func (m *maker) pick(l ...string) string { return l[m.Intn(len(l))] }

func (m *maker) name() string { return m.pick("x", "y", "zed", "p", "q") }

// some has up to n parts, with `,` between.
func (m *maker) some(n int, part func() string) string {
	var l []string
	for range m.Intn(n + 1) {
		l = append(l, part())
	}
	return strings.Join(l, ", ")
}

func (m *maker) label() string { return m.pick("{}", "{a}", "{b, a}") }

func (m *maker) expr() string {
	m.deep++
	defer func() { m.deep-- }()
	if m.deep > 4 {
		return m.name()
	}
	switch m.Intn(6) {
	case 0:
		return m.pick("0", "1", "42")
	case 1:
		return m.name() + "(" + m.some(3, m.expr) + ")"
	case 2:
		return "(" + m.expr() + ")"
	case 3:
		return m.expr() + m.pick("=", "<", "+", " - ", "*") + m.expr()
	}
	return m.name()
}

func (m *maker) block() string {
	m.deep++
	defer func() { m.deep-- }()
	s := "{ "
	for m.deep < 5 && m.Intn(5) > 0 {
		s += m.stmt() + m.pick("", " ", "\n  ")
	}
	return s + "}"
}

func (m *maker) stmt() string {
	switch m.Intn(9) {
	case 0:
		return "let " + m.name() + " = " + m.expr() + ";"
	case 1:
		return "let " + m.name() + ": " + m.label() + " = " + m.expr() + ";"
	case 2, 3:
		return m.name() + " = " + m.expr() + ";"
	case 4:
		return "send " + m.name() + " " + m.expr() + ";"
	case 5:
		return "if " + m.expr() + " " + m.block() + m.pick("", " else "+m.block())
	case 6:
		return "while " + m.expr() + " " + m.block()
	case 7:
		return "return " + m.expr() + ";"
	}
	return m.name() + "(" + m.some(3, m.expr) + ");"
}

func (m *maker) item() string {
	if m.Intn(3) == 0 {
		return "chan " + m.name() + ": " + m.label() + ";"
	}
	s := "fn " + m.name() + "(" + m.some(3, func() string { return m.name() + ": " + m.label() }) + "): " + m.label()
	if m.Intn(2) == 0 {
		s += " sends " + m.name() + strings.Repeat(", "+m.name(), m.Intn(3))
	}
	return s + " " + m.block()
}

// text has a text in which names alone are wrong.
func (m *maker) text() string {
	s := m.pick("", "", "# x\n", " ")
	for range m.Intn(6) {
		s += m.item() + m.pick("\n", "\n\n", "\n# y\n", " \n ")
	}
	return s[:min(len(s), api.MaxText)]
}

// broken has a text with some tokens left out, and some put in.
func (m *maker) broken() string {
	s := m.text()
	for range 1 + m.Intn(4) {
		l := lex.Tokens(s)
		if len(l) == 0 {
			break
		}
		t := l[m.Intn(len(l))]
		s = s[:t.At] + m.pick("", "", "(", ")", "{", "}", ";", ",", "=", "+", " x ", " let ", " if ", " else ", " send ", "1", "?", "\nfn ", "\nchan ") + s[t.At+m.Intn(2)*len(t.Text):]
	}
	return s[:min(len(s), api.MaxText)]
}

// texts hands on many texts, of which every other one is broken.
func texts(t *testing.T, n int, use func(s string, f api.File)) {
	t.Helper()
	for seed := range n {
		m := &maker{Rand: rand.New(rand.NewSource(int64(seed)))}
		s := m.text()
		if seed%2 == 1 {
			s = m.broken()
		}
		use(s, read(t, s))
	}
}

func same[T any](a, b []T) bool { return len(a) == 0 && len(b) == 0 || reflect.DeepEqual(a, b) }

// What is told is what places alone tell (see places_test.go).
func TestByPlaces(t *testing.T) {
	wrong, used := 0, 0
	texts(t, 6000, func(s string, f api.File) {
		var uses []api.Use
		for i := range f.Items {
			want := placed(f, i)
			if got := Diags(f, i); !same(got, want.diags) {
				t.Fatalf("of item %d of %q is wrong\n%v, not\n%v", i, s, got, want.diags)
			}
			wrong += len(want.diags)
			uses = append(uses, want.uses...)
		}
		if got := Uses(f); !same(got, uses) {
			t.Fatalf("of %q is used\n%v, not\n%v", s, got, uses)
		}
		used += len(uses)
	})
	if wrong < 50000 || used < 50000 {
		t.Errorf("with %d wrong and %d used names the texts are too poor", wrong, used)
	}
}

// In a text in which names alone are wrong each name is made, or used, or there is none; and what is used is made.
func TestEachNameOnce(t *testing.T) {
	texts(t, 4000, func(s string, f api.File) {
		stands, made := map[int]int{}, map[int]string{}
		makes := func(at int, name string) {
			stands[at]++
			made[at] = name
		}
		for i, it := range f.Items {
			if len(it.Diags) > 0 {
				return
			}
			makes(it.At+it.Mark, it.Name)
			for _, p := range it.Params {
				makes(it.At+p.At, p.Name)
			}
			for _, st := range flat(it.Body) {
				if st.Kind == api.StLet {
					makes(it.At+st.At, st.Name)
				}
			}
			for _, d := range Diags(f, i) {
				if d.Err == api.ErrNone {
					stands[it.At+d.From]++
				}
			}
		}
		for _, u := range Uses(f) {
			stands[u.From]++
			if made[u.Def] != s[u.From:u.To] {
				t.Fatalf("of %q %v means what isn't made", s, u)
			}
		}
		// No tag is a name of a maker.
		for _, tok := range lex.Tokens(s) {
			want := 0
			if lex.Name(tok.Text) && tok.Text != "a" && tok.Text != "b" {
				want = 1
			}
			if stands[tok.At] != want {
				t.Fatalf("of %q %v is told %d times, not %d", s, tok, stands[tok.At], want)
			}
		}
	})
}

func TestAtIsFirst(t *testing.T) {
	texts(t, 200, func(s string, f api.File) {
		uses := Uses(f)
		for at := -1; at <= len(s); at++ {
			var want api.Use
			for i := len(uses) - 1; i >= 0; i-- {
				if at >= uses[i].From && at < uses[i].To {
					want = uses[i]
				}
			}
			if got, ok := At(f, at); got != want || ok != (want != api.Use{}) {
				t.Fatalf("at byte %d of %q stands %v, %v, not %v", at, s, got, ok, want)
			}
		}
	})
}

func TestFindIsFirst(t *testing.T) {
	texts(t, 1000, func(s string, f api.File) {
		for kind := -1; kind < 5; kind++ {
			for _, name := range []string{"", "x", "y", "zed", "p", "q", "ze", "fn"} {
				want := -1
				for i := len(f.Items) - 1; i >= 0; i-- {
					if f.Items[i].Kind == kind && f.Items[i].Name == name && name != "" {
						want = i
					}
				}
				if got := Find(f, kind, name); got != want {
					t.Fatalf("the first of kind %d and name %q of %q is %d, not %d", kind, name, s, got, want)
				}
			}
		}
	})
}

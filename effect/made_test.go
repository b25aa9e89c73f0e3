package effect

import (
	"math/rand"
	"reflect"
	"slices"
	"strings"
	"testing"

	"undertone/api"
	"undertone/lex"
	"undertone/parse"
)

// maker writes texts, in which few names are those of many things.
type maker struct {
	*rand.Rand
	deep int
}

func (m *maker) pick(l ...string) string { return l[m.Intn(len(l))] }

func (m *maker) name() string { return m.pick("f", "g", "h", "k", "l", "none", "f1", "G") }

func (m *maker) channel() string { return m.pick("p", "q", "r", "s", "none", "f", "P", "q1") }

func (m *maker) call() string {
	return m.name() + "(" + m.pick("", "1", m.expr()+", "+m.expr()) + ")"
}

func (m *maker) expr() string {
	m.deep++
	defer func() { m.deep-- }()
	if m.deep > 4 || m.Intn(3) == 0 {
		return m.pick("x", "1", "f")
	}
	switch m.Intn(4) {
	case 0:
		return m.call()
	case 1:
		return "(" + m.expr() + ")"
	}
	return m.expr() + m.pick("=", "<", "+", " - ", "*") + m.expr()
}

func (m *maker) block() string {
	m.deep++
	defer func() { m.deep-- }()
	s := "{ "
	for m.deep < 5 && m.Intn(4) > 0 {
		s += m.stmt() + m.pick("", " ", "\n  ")
	}
	return s + "}"
}

func (m *maker) stmt() string {
	switch m.Intn(9) {
	case 0:
		return "let " + m.pick("x", "y: {a}") + " = " + m.expr() + ";"
	case 1:
		return "x = " + m.expr() + ";"
	case 2:
		return "return " + m.expr() + ";"
	case 3:
		return "if " + m.expr() + " " + m.block() + m.pick("", " else "+m.block())
	case 4:
		return "while " + m.expr() + " " + m.block()
	case 5:
		return m.call() + ";"
	}
	return "send " + m.channel() + " " + m.expr() + ";"
}

func (m *maker) item() string {
	if m.Intn(5) == 0 {
		return "chan " + m.channel() + ": {};"
	}
	s := "fn " + m.name() + "(x: {}): {}"
	if m.Intn(2) == 0 {
		s += " sends " + m.channel() + strings.Repeat(", "+m.channel(), m.Intn(4))
	}
	return s + " " + m.block()
}

func (m *maker) text() string {
	s := ""
	for range m.Intn(9) {
		s += m.item() + m.pick("\n", "\n# send q f();\n")
	}
	return s[:min(len(s), api.MaxText)]
}

// broken has a text with some tokens left out, and some put in.
func (m *maker) broken() string {
	s := m.text()
	for range 1 + m.Intn(4) {
		l := lex.Tokens(s)
		if len(l) == 0 {
			break
		}
		t := l[m.Intn(len(l))]
		s = s[:t.At] + m.pick("", "", "(", ")", "{", "}", ";", ",", "=", "+", " x ", " let ", " if ", " else ", " send ", "1", "?", "\nfn ", "\nchan ") + s[t.At+m.Intn(2)*len(t.Text):]
	}
	return s[:min(len(s), api.MaxText)]
}

// texts hands on many texts, of which every other one is broken.
func texts(t *testing.T, n int, use func(s string, f api.File)) {
	t.Helper()
	for seed := range n {
		m := &maker{Rand: rand.New(rand.NewSource(int64(seed)))}
		s := m.text()
		if seed%2 == 1 {
			s = m.broken()
		}
		use(s, read(t, s))
	}
}

// set has a list's names, sorted, each once, without the empty one.
func set(l map[string]bool) []string {
	var out []string
	for name := range l {
		if name != "" {
			out = append(out, name)
		}
	}
	slices.Sort(out)
	return out
}

// anywhere goes into all that v has, and gathers what sends, and what calls, wherever it stands.
func anywhere(v reflect.Value, sends, calls map[string]bool) {
	switch x := v.Interface().(type) {
	case api.Stmt:
		if x.Kind == api.StSend {
			sends[x.Name] = true
		}
	case api.Expr:
		if x.Kind == api.ExCall {
			calls[x.Name] = true
		}
	}
	switch v.Kind() {
	case reflect.Struct:
		for i := range v.NumField() {
			anywhere(v.Field(i), sends, calls)
		}
	case reflect.Slice:
		for i := range v.Len() {
			anywhere(v.Index(i), sends, calls)
		}
	}
}

func ownByLook(it api.Item) (sends, calls []string) {
	s, c := map[string]bool{}, map[string]bool{}
	anywhere(reflect.ValueOf(it), s, c)
	return set(s), set(c)
}

// allByRounds has each item take what those that it calls have, until nothing more comes.
func allByRounds(f api.File) [][]string {
	has := make([]map[string]bool, len(f.Items))
	first := map[string]int{}
	for i, it := range f.Items {
		has[i] = map[string]bool{}
		sends, _ := ownByLook(it)
		for _, name := range sends {
			has[i][name] = true
		}
		if _, ok := first[it.Name]; it.Kind == api.ItFn && it.Name != "" && !ok {
			first[it.Name] = i
		}
	}
	for more := true; more; {
		more = false
		for i, it := range f.Items {
			_, calls := ownByLook(it)
			for _, name := range calls {
				k, ok := first[name]
				if !ok {
					continue
				}
				for c := range has[k] {
					more = more || !has[i][c]
					has[i][c] = true
				}
			}
		}
	}
	var out [][]string
	for _, l := range has {
		out = append(out, set(l))
	}
	return out
}

// What is told is what other means find, of right texts and of broken ones.
func TestByOtherMeans(t *testing.T) {
	sent, called, more, wrong := 0, 0, 0, 0
	texts(t, 4000, func(s string, f api.File) {
		want := allByRounds(f)
		if got := All(f); !slices.EqualFunc(got, want, slices.Equal) {
			t.Fatalf("of %q all is\n%q, not\n%q", s, got, want)
		}
		for i, it := range f.Items {
			sends, calls := Own(it)
			wantSends, wantCalls := ownByLook(it)
			if !slices.Equal(sends, wantSends) || !slices.Equal(calls, wantCalls) {
				t.Fatalf("of item %d of %q: %q, %q, not %q, %q", i, s, sends, calls, wantSends, wantCalls)
			}
			var diags []api.Diag
			for _, name := range want[i] {
				if !slices.ContainsFunc(it.Sends, func(r api.Ref) bool { return r.Name == name }) {
					diags = append(diags, api.Diag{Err: api.ErrSend, Name: name})
				}
			}
			if got := Diags(f, i); !slices.Equal(got, diags) {
				t.Fatalf("of item %d of %q is wrong %v, not %v", i, s, got, diags)
			}
			sent, called, more, wrong = sent+len(sends), called+len(calls), more+len(want[i])-len(sends), wrong+len(diags)
		}
	})
	if sent < 5000 || called < 5000 || more < 2000 || wrong < 5000 {
		t.Errorf("with %d sent to, %d called, %d more, %d wrong the texts are too poor", sent, called, more, wrong)
	}
}

// In an item with which nothing is wrong, what stands behind `send` is sent to, and what stands ahead of `(` is called, but for the item itself.
func TestByTokens(t *testing.T) {
	right := 0
	texts(t, 2000, func(s string, f api.File) {
		for _, it := range f.Items {
			if it.Kind != api.ItFn || len(it.Diags) > 0 {
				continue
			}
			right++
			wantSends, wantCalls := map[string]bool{}, map[string]bool{}
			l := lex.Tokens(s[it.At : it.At+it.Size])
			for k := 2; k < len(l); k++ {
				ahead := l[k-2].Text
				if l[k-1].Text == "send" {
					wantSends[l[k].Text] = true
				}
				if l[k].Text == "(" && lex.Name(l[k-1].Text) && ahead != "fn" && ahead != "send" {
					wantCalls[l[k-1].Text] = true
				}
			}
			sends, calls := Own(it)
			if !slices.Equal(sends, set(wantSends)) || !slices.Equal(calls, set(wantCalls)) {
				t.Fatalf("of %q: %q, %q, not %q, %q", s[it.At:it.At+it.Size], sends, calls, set(wantSends), set(wantCalls))
			}
		}
	})
	if right < 3000 {
		t.Errorf("just %d items are right", right)
	}
}

// With all said nothing is wrong; with one of them left out just that one is.
func TestSaid(t *testing.T) {
	texts(t, 1000, func(s string, f api.File) {
		for i, l := range All(f) {
			it := parse.Own(f.Items[i])
			g := api.File{Items: slices.Clone(f.Items)}
			say := func(l []string) []api.Diag {
				it.Sends = nil
				for k, name := range l {
					it.Sends = append(it.Sends, api.Ref{Name: name, At: -k})
				}
				g.Items[i] = it
				return Diags(g, i)
			}
			if got := say(l); len(got) != 0 {
				t.Fatalf("of item %d of %q, that says all, is wrong %v", i, s, got)
			}
			for k, name := range l {
				got := say(slices.Delete(slices.Clone(l), k, k+1))
				if len(got) != 1 || got[0] != (api.Diag{Err: api.ErrSend, Name: name}) {
					t.Fatalf("of item %d of %q without %s is wrong %v", i, s, name, got)
				}
			}
		}
	})
}

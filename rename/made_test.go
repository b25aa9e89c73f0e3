package rename

import (
	"fmt"
	"math/rand"
	"reflect"
	"slices"
	"strings"
	"testing"

	"undertone/api"
	"undertone/lex"
	"undertone/names"
	"undertone/parse"
	"undertone/run"
)

// maker writes texts with which nothing is wrong, in which few names are those of many things. All has the same label, so that no secret is told.
type maker struct {
	*rand.Rand
	label      string
	chans, fns []string
	params     []int
	fn         int // the one that is being made
	deep       int
}

func (m *maker) pick(l ...string) string { return l[m.Intn(len(l))] }

func (m *maker) gap() string { return m.pick("", "", " ", "\n ", " # x y f c\n ") }

// name is none of those that are taken, if there is one.
func (m *maker) name(taken []string) (string, bool) {
	pool := []string{"a", "b", "x", "y", "f", "c", "_", "lets", "x1", "zed", "abcdefghijkl"}
	pool = slices.DeleteFunc(pool, func(s string) bool { return slices.Contains(taken, s) })
	if len(pool) == 0 {
		return "", false
	}
	return m.pick(pool...), true
}

func (m *maker) expr(in []string) string {
	m.deep++
	defer func() { m.deep-- }()
	switch k := m.Intn(8); {
	case k == 0 && m.deep < 6:
		return "(" + m.gap() + m.expr(in) + ")"
	case k < 3 && m.deep < 6:
		return m.expr(in) + m.gap() + m.pick("+", "-", "*", "<", "=") + m.gap() + m.expr(in)
	case k < 5 && m.deep < 6:
		if i, ok := m.callee(); ok {
			return m.call(i, in)
		}
	case k < 7 && len(in) > 0:
		return m.pick(in...)
	}
	return m.pick("0", "1", "12")
}

// callee is mostly a function that is made later, so that there is an end; perhaps there is none.
func (m *maker) callee() (int, bool) {
	if m.Intn(30) == 0 {
		return m.Intn(len(m.fns)), true
	}
	later := len(m.fns) - 1 - m.fn
	if later == 0 {
		return 0, false
	}
	return m.fn + 1 + m.Intn(later), true
}

func (m *maker) call(i int, in []string) string {
	var args []string
	for range m.params[i] {
		args = append(args, m.expr(in))
	}
	return m.fns[i] + m.gap() + "(" + strings.Join(args, ","+m.gap()) + ")"
}

func (m *maker) block(in []string) string {
	m.deep++
	defer func() { m.deep-- }()
	s := "{" + m.gap()
	for range m.Intn(max(1, 6-m.deep)) {
		var st string
		st, in = m.stmt(in)
		s += st + m.gap()
	}
	return s + "}"
}

// stmt has the locals that there are behind it, too.
func (m *maker) stmt(in []string) (string, []string) {
	switch m.Intn(9) {
	case 0, 1, 2:
		if name, ok := m.name(in); ok {
			return "let " + name + m.gap() + m.pick(":"+m.gap()+m.label+m.gap()+"=", "=") + m.expr(in) + ";", append(slices.Clip(in), name)
		}
	case 3:
		if len(in) > 0 {
			return m.pick(in...) + m.gap() + "=" + m.expr(in) + ";", in
		}
	case 4, 5:
		if len(m.chans) > 0 {
			return "send " + m.pick(m.chans...) + " " + m.expr(in) + m.gap() + ";", in
		}
	case 6:
		return "if " + m.expr(in) + m.block(in) + m.pick("", "else"+m.gap()+m.block(in)), in
	case 7:
		return "while " + m.expr(in) + m.block(in), in
	}
	if i, ok := m.callee(); ok {
		return m.call(i, in) + ";", in
	}
	return "return " + m.expr(in) + ";", in
}

func (m *maker) function(i int) string {
	m.fn = i
	var in, params []string
	for range m.params[i] {
		name, _ := m.name(in)
		in = append(in, name)
		params = append(params, name+m.gap()+":"+m.label)
	}
	s := "fn " + m.fns[i] + "(" + strings.Join(params, m.gap()+",") + "):" + m.label
	if len(m.chans) > 0 {
		s += m.pick(" ", "\n ") + "sends " + strings.Join(m.chans, m.gap()+", ")
	}
	return s + m.gap() + m.block(in) + m.pick("\n", "\n\n", "\n# x\n")
}

func (m *maker) text() string {
	m.label = m.pick("{}", "{a}", "{a, b}")
	for range m.Intn(4) {
		name, _ := m.name(m.chans)
		m.chans = append(m.chans, name)
	}
	for range 1 + m.Intn(4) {
		name, _ := m.name(m.fns)
		m.fns = append(m.fns, name)
		m.params = append(m.params, m.Intn(4))
	}
	var items []string
	for i := range m.fns {
		items = append(items, m.function(i))
	}
	for _, name := range m.chans {
		items = append(items, "chan "+name+m.gap()+":"+m.label+m.gap()+";\n")
	}
	m.Shuffle(len(items), func(i, k int) { items[i], items[k] = items[k], items[i] })
	return m.pick("", "# x\n", " \n") + strings.Join(items, "")
}

// broken has other tokens in the place of some.
func (m *maker) broken() string {
	s := m.text()
	for range 1 + m.Intn(4) {
		l := lex.Tokens(s)
		k := l[m.Intn(len(l))]
		s = s[:k.At] + m.pick("", "", "(", ")", "{", "}", ";", ",", "=", "+", " x ", " y ", " let ", " if ", " send ", "1", "?", "\nfn ", "\nchan ") + s[k.At+m.Intn(2)*len(k.Text):]
	}
	return s[:min(len(s), api.MaxText)]
}

// rights hands on many texts with which nothing is wrong; some are as long as texts may be, or almost.
func rights(t *testing.T, n int, use func(m *maker, s string, f api.File)) {
	t.Helper()
	count := 0
	for seed := range n {
		m := &maker{Rand: rand.New(rand.NewSource(int64(seed)))}
		s := m.text()
		f, err := parse.File(s)
		if err != api.OK || len(run.All(f)) > 0 {
			continue
		}
		if m.Intn(4) == 0 {
			s += strings.Repeat(" ", max(0, api.MaxText-len(s)-m.Intn(12)))
			f = read(t, s)
		}
		use(m, s, f)
		count++
	}
	if count < n*3/4 {
		t.Errorf("with %d right ones of %d the texts are too poor", count, n)
	}
}

func brokens(t *testing.T, n int, use func(m *maker, s string, f api.File)) {
	t.Helper()
	for seed := range n {
		m := &maker{Rand: rand.New(rand.NewSource(int64(seed)))}
		s := m.broken()
		use(m, s, read(t, s))
	}
}

// What is made where is what tokens alone tell (see tokens_test.go), and so is what comes of other names.
func TestByTokens(t *testing.T) {
	ends := map[api.Errno]int{}
	rights(t, 1500, func(m *maker, s string, f api.File) {
		words := slices.DeleteFunc(lex.Tokens(s), func(k api.Token) bool { return !lex.Name(k.Text) })
		for range 15 {
			at := m.Intn(len(s)+4) - 2
			if k := words[m.Intn(len(words))]; m.Intn(4) > 0 {
				at = k.At + m.Intn(len(k.Text))
			}
			def, ok := Def(f, at)
			if d, o := defOf(s, at); d != def || o != ok {
				t.Fatalf("at byte %d of %q stands what is made at %d, %v, not %d, %v", at, s, def, ok, d, o)
			}
			name := m.pick("a", "b", "x", "y", "f", "c", "lets", "zed", "new", "abcdefghijkl", "_2", "fn", "1")
			got, err := To(s, at, name)
			if want, e := called(s, at, name); got != want || err != e {
				t.Fatalf("at byte %d of %q, called %s, comes to\n%q, %d, not\n%q, %d", at, s, name, got, err, want, e)
			}
			ends[err]++
		}
	})
	if ends[api.OK] < 5000 || ends[api.ErrName] < 2000 || ends[api.ErrNone] < 5000 || ends[api.ErrMuch] < 300 || len(ends) != 4 {
		t.Errorf("with ends %v the texts are too poor", ends)
	}
}

// taken is what was called otherwise: at byte at of s, and at byte now of what came of it, stands was, or name.
type taken struct {
	s, out, was, name string
	at, now           int
	f, g              api.File
}

// others hands on many texts in which something is called otherwise.
func others(t *testing.T, n int, use func(m *maker, c taken)) {
	t.Helper()
	rights(t, n, func(m *maker, s string, f api.File) {
		toks := lex.Tokens(s)
		for range 12 {
			i := m.Intn(len(toks))
			if !lex.Name(toks[i].Text) {
				continue
			}
			c := taken{s: s, was: toks[i].Text, name: m.pick("new", "x", "q", "abcdefghijkl", "b"), at: toks[i].At, f: f}
			var err api.Errno
			if c.out, err = To(s, c.at, c.name); err == api.OK {
				c.now = lex.Tokens(c.out)[i].At
				c.g = read(t, c.out)
				use(m, c)
			}
		}
	})
}

// Called otherwise, and back, it is what it was.
func TestAndBack(t *testing.T) {
	count := 0
	others(t, 1500, func(m *maker, c taken) {
		if got, err := To(c.out, c.now, c.was); got != c.s || err != api.OK {
			t.Fatalf("byte %d of %q, called %s, and back, comes to %q, %d", c.at, c.s, c.name, got, err)
		}
		count++
	})
	if count < 2000 {
		t.Errorf("with %d called otherwise the texts are too poor", count)
	}
}

// Nothing else is touched: no other token, no blank, no remark, and each use means what it meant.
func TestNothingElse(t *testing.T) {
	others(t, 600, func(m *maker, c taken) {
		was, is := lex.Tokens(c.s), lex.Tokens(c.out)
		if len(was) != len(is) {
			t.Fatalf("byte %d of %q, called %s, has %d tokens, not %d", c.at, c.s, c.name, len(is), len(was))
		}
		def, _ := Def(c.f, c.at)
		number := map[int]int{} // which token begins at a byte of what came of it
		end, now := 0, 0
		for i := range was {
			number[is[i].At] = i
			want := was[i].Text
			if d, ok := Def(c.f, was[i].At); ok && d == def {
				want = c.name
			}
			if is[i].Text != want || c.s[end:was[i].At] != c.out[now:is[i].At] {
				t.Fatalf("byte %d of %q, called %s, has %q, not %q, or other blanks ahead of it", c.at, c.s, c.name, is[i].Text, want)
			}
			end, now = was[i].At+len(was[i].Text), is[i].At+len(is[i].Text)
		}
		if c.s[end:] != c.out[now:] {
			t.Fatalf("byte %d of %q, called %s, ends otherwise", c.at, c.s, c.name)
		}
		uses := names.Uses(c.g)
		for k, u := range names.Uses(c.f) {
			i, d := number[uses[k].From], number[uses[k].Def]
			if was[i].At != u.From || was[d].At != u.Def || uses[k].To != uses[k].From+len(is[i].Text) {
				t.Fatalf("byte %d of %q, called %s, has use %v, where %v was", c.at, c.s, c.name, uses[k], u)
			}
		}
	})
}

// Called otherwise it does the same, but that it may be another channel to which it is sent, or another function that is run.
func TestRunsTheSame(t *testing.T) {
	ran := 0
	others(t, 400, func(m *maker, c taken) {
		for i, it := range c.f.Items {
			if it.Kind != api.ItFn {
				continue
			}
			args := []int{m.Intn(5), m.Intn(5), m.Intn(5)}[:len(it.Params)]
			was, is := run.Run(c.f, it.Name, args), run.Run(c.g, c.g.Items[i].Name, args)
			for k, e := range was.Events {
				was.Events[k].Chan = c.g.Items[names.Find(c.f, api.ItChan, e.Chan)].Name
			}
			if fmt.Sprint(was) != fmt.Sprint(is) {
				t.Fatalf("byte %d of %q, called %s, comes to\n%v, not\n%v", c.at, c.s, c.name, is, was)
			}
			ran += len(is.Events)
		}
	})
	if ran < 500 {
		t.Errorf("with %d sent the texts are too poor", ran)
	}
}

// With a text with something wrong nothing is done.
func TestBroken(t *testing.T) {
	bad := 0
	brokens(t, 1500, func(m *maker, s string, f api.File) {
		if len(run.All(f)) == 0 {
			return
		}
		bad++
		for range 4 {
			at, name := m.Intn(len(s)+4)-2, m.pick("x", "new", "fn", "")
			if got, err := To(s, at, name); got != "" || err != api.ErrBad {
				t.Fatalf("at byte %d of %q, called %s, comes %q, %d", at, s, name, got, err)
			}
		}
	})
	if bad < 1000 {
		t.Errorf("with %d wrong ones the texts are too poor", bad)
	}
}

// madeIn has the place of each name that an item makes, by the shape of what is read alone.
func madeIn(it api.Item) []api.Ref {
	out := []api.Ref{{Name: it.Name, At: it.Mark}}
	var walk func(v reflect.Value)
	walk = func(v reflect.Value) {
		switch x := v.Interface().(type) {
		case api.Param:
			out = append(out, api.Ref{Name: x.Name, At: x.At})
		case api.Stmt:
			if x.Kind == api.StLet {
				out = append(out, api.Ref{Name: x.Name, At: x.At})
			}
		}
		switch v.Kind() {
		case reflect.Slice:
			for i := range v.Len() {
				walk(v.Index(i))
			}
		case reflect.Struct:
			for i := range v.NumField() {
				walk(v.Field(i))
			}
		}
	}
	walk(reflect.ValueOf(it))
	return out
}

// Of all that is used, and all that is made, Def tells, whatever is wrong; and of nothing else.
func TestDefOfAny(t *testing.T) {
	told := 0
	brokens(t, 800, func(m *maker, s string, f api.File) {
		want := map[int]int{}
		for _, it := range f.Items {
			if it.Kind == api.ItBad || it.Name == "" {
				continue
			}
			for _, r := range madeIn(it) {
				for k := range len(r.Name) {
					want[it.At+r.At+k] = it.At + r.At
				}
			}
		}
		for _, u := range names.Uses(f) {
			for at := u.From; at < u.To; at++ {
				want[at] = u.Def
			}
		}
		for at := -2; at < len(s)+2; at++ {
			def, ok := Def(f, at)
			if d, o := want[at]; d != def || o != ok {
				t.Fatalf("at byte %d of %q stands what is made at %d, %v, not %d, %v", at, s, def, ok, d, o)
			}
		}
		told += len(want)
	})
	if told < 30000 {
		t.Errorf("with names at %d bytes the texts are too poor", told)
	}
}

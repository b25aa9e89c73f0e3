package parse

import (
	"fmt"
	"math/rand"
	"reflect"
	"strings"
	"testing"

	"undertone/api"
	"undertone/label"
	"undertone/lex"
)

// maker writes texts in which nothing is wrong, and what must be read of them.
type maker struct {
	*rand.Rand
	s    string
	deep int
}

var gaps = []string{"", "", "", " ", "  ", "\n ", "\t", " # if x { ;\n ", "#\n"}

// put writes a token behind a gap, and tells where it begins.
func (m *maker) put(text string) int {
	gap := gaps[m.Intn(len(gaps))]
	joins := func(c byte) bool { return lex.Letter(c) || lex.Digit(c) }
	if gap == "" && m.s != "" && joins(m.s[len(m.s)-1]) && joins(text[0]) {
		gap = " "
	}
	m.s += gap
	at := len(m.s)
	m.s += text
	return at
}

// goes tells, mostly as often as once in n times, whether something more is written; of a long text no more, so that there is an end.
func (m *maker) goes(n int) bool { return len(m.s) < 500 && m.Intn(n) == 0 }

func (m *maker) pick(l ...string) string { return l[m.Intn(len(l))] }

func (m *maker) name() string {
	return m.pick("x", "y", "_", "F9", "abcdefghijkl", "lets", "a", "h", "fn1", "Send")
}

// ref writes a name, and tells it, and where it begins.
func (m *maker) ref() (string, int) {
	s := m.name()
	return s, m.put(s)
}

func (m *maker) label() int {
	m.put("{")
	n := 0
	l := m.Perm(api.Tags)[:m.Intn(4)]
	for i, tag := range l {
		n += 1 << tag
		m.put(string(rune('a' + tag)))
		m.comma(i, len(l))
	}
	m.put("}")
	return n
}

// comma writes `,` behind part i of n: behind the last one perhaps.
func (m *maker) comma(i, n int) {
	if i < n-1 || m.Intn(2) == 0 {
		m.put(",")
	}
}

func (m *maker) expr(bind int) api.Expr {
	if bind == 3 {
		return m.single()
	}
	left := m.expr(bind + 1)
	for m.goes(4) {
		sign := [][]string{{"=", "<"}, {"+", "-"}, {"*"}}[bind]
		name := m.pick(sign...)
		m.put(name)
		right := m.expr(bind + 1)
		left = api.Expr{Kind: api.ExOp, Name: name, Args: []api.Expr{left, right}, From: left.From, To: right.To}
	}
	return left
}

func (m *maker) single() api.Expr {
	kind := m.Intn(4)
	if m.deep < api.MaxNest-1 && m.goes(2) {
		kind = 4 + m.Intn(2)
	}
	switch {
	case kind < 2:
		text := m.pick("0", "1", "42", "007", "999999999", "1000000000", "0000000000000000000000000000001")
		n := 0
		fmt.Sscanf(text, "%d", &n)
		at := m.put(text)
		return api.Expr{Kind: api.ExInt, N: n, From: at, To: len(m.s)}
	case kind < 4:
		s, at := m.ref()
		return api.Expr{Kind: api.ExVar, Name: s, From: at, To: len(m.s)}
	case kind == 4:
		return m.call()
	}
	m.deep++
	defer func() { m.deep-- }()
	m.put("(")
	e := m.expr(0)
	m.put(")")
	return e
}

func (m *maker) call() api.Expr {
	m.deep++
	defer func() { m.deep-- }()
	s, at := m.ref()
	e := api.Expr{Kind: api.ExCall, Name: s, From: at}
	m.put("(")
	n := m.Intn(api.MaxParams + 1)
	if m.deep == api.MaxNest {
		n = 0
	}
	for i := range n {
		e.Args = append(e.Args, m.expr(0))
		m.comma(i, n)
	}
	m.put(")")
	e.To = len(m.s)
	return e
}

func (m *maker) block() []api.Stmt {
	m.deep++
	defer func() { m.deep-- }()
	m.put("{")
	var out []api.Stmt
	for m.deep < api.MaxNest && len(out) < api.MaxStmts && !m.goes(3) && len(m.s) < 500 {
		out = append(out, m.stmt())
	}
	m.put("}")
	return out
}

func (m *maker) stmt() api.Stmt {
	st := api.Stmt{Kind: api.StLet + m.Intn(api.StDo)}
	switch st.Kind {
	case api.StLet:
		st.From = m.put("let")
		st.Name, st.At = m.ref()
		st.Open = m.Intn(2) == 0
		if !st.Open {
			m.put(":")
			st.Label = m.label()
		}
		m.put("=")
	case api.StSet:
		st.Name, st.At = m.ref()
		st.From = st.At
		m.put("=")
	case api.StSend:
		st.From = m.put("send")
		st.Name, st.At = m.ref()
	case api.StBack:
		st.From = m.put("return")
	case api.StDo:
		st.E = m.call()
		st.From = st.E.From
	default:
		return m.blocks(st)
	}
	if st.Kind != api.StDo {
		st.E = m.expr(0)
	}
	m.put(";")
	st.To = len(m.s)
	return st
}

func (m *maker) blocks(st api.Stmt) api.Stmt {
	st.From = m.put(map[int]string{api.StIf: "if", api.StWhile: "while"}[st.Kind])
	st.E = m.expr(0)
	st.Then = m.block()
	if st.Kind == api.StIf && m.Intn(2) == 0 {
		m.put("else")
		st.Else = m.block()
	}
	st.To = len(m.s)
	return st
}

func (m *maker) item() api.Item {
	if m.Intn(6) == 0 {
		it := api.Item{Kind: api.ItChan}
		m.put("chan")
		it.Name, it.Mark = m.ref()
		m.put(":")
		it.Label = m.label()
		m.put(";")
		return it
	}
	it := api.Item{Kind: api.ItFn}
	m.put("fn")
	it.Name, it.Mark = m.ref()
	m.put("(")
	n := m.Intn(api.MaxParams + 1)
	for i := range n {
		var p api.Param
		p.Name, p.At = m.ref()
		m.put(":")
		p.Label = m.label()
		it.Params = append(it.Params, p)
		m.comma(i, n)
	}
	m.put(")")
	m.put(":")
	it.Label = m.label()
	for i := range m.Intn(api.MaxParams + 1) {
		m.put([]string{"sends", ",", ",", ",", ","}[i])
		var r api.Ref
		r.Name, r.At = m.ref()
		it.Sends = append(it.Sends, r)
	}
	it.Body = m.block()
	return it
}

// right makes an item, and what its text is.
func right(seed int64) (string, api.Item) {
	m := &maker{Rand: rand.New(rand.NewSource(seed))}
	it := m.item()
	m.s += gaps[m.Intn(len(gaps))]
	it.Size = len(m.s)
	return m.s, it
}

// nest tells how many signs are open at most.
func nest(s string) int {
	open, most := 0, 0
	for _, t := range lex.Tokens(s) {
		open += strings.Count("({", t.Text) - strings.Count(")}", t.Text)
		most = max(most, open)
	}
	return most
}

func TestRight(t *testing.T) {
	deepest, longest := 0, 0
	for seed := range int64(20000) {
		s, want := right(seed)
		want.At = int(seed)
		got := Item(s, want.At)
		if !reflect.DeepEqual(got, want) {
			t.Fatalf("Item(%q) is\n%s %s, not\n%s", s, shape(got), told(got.Diags), shape(want))
		}
		if why := fit(s, got); why != "" {
			t.Fatalf("Item(%q): %s", s, why)
		}
		longest = max(longest, len(s))
		deepest = max(deepest, nest(s))
	}
	if longest < 500 || deepest < api.MaxNest-3 {
		t.Errorf("of %d bytes, and %d deep, the texts are too small", longest, deepest)
	}
}

// Each text that is one byte or one token shorter ends, and tells what fits.
func TestRightCutOff(t *testing.T) {
	for seed := range int64(60) {
		s, _ := right(seed)
		for i := range s {
			if why := fit(s[:i], Item(s[:i], 3)); why != "" {
				t.Fatalf("Item(%q): %s", s[:i], why)
			}
			less := s[:i] + s[i+1:]
			if why := fit(less, Item(less, 3)); why != "" {
				t.Fatalf("Item(%q): %s", less, why)
			}
		}
	}
}

func TestLabels(t *testing.T) {
	for n := range api.Top + 1 {
		s := "chan c: " + label.Print(n) + ";"
		it := Item(s, 0)
		if it.Label != n || len(it.Diags) > 0 {
			t.Errorf("Item(%q) is %v", s, it)
		}
	}
}
